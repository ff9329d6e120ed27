/- Package resolve: items by their names, in the order of the names' first ones: pure. Package resolve: items hands out the items of all modules, module by module, whatever the loop's body does, if it keeps what lay when it began, and the blocks of modules. Package resolve: the table of names as it lies in memory. Package resolve: put gives an item to its name. Package resolve: gather, the table of all names. -/
import Derived.Test.YtniolkjeblocaaaSB
namespace Go.Proofs.Ytniolkjeblocaaa
open Go.RowKit Go.Maps

structure Gp where
  s : ByteArray
  l : List Ri
/-- an item is given to its name -/
def putG (G : List Gp) (x : Ri) : List Gp := if G.any (fun g => g.s == x.s) then G.map (fun g => if g.s == x.s then ⟨g.s, g.l ++ [x]⟩ else g) else G ++ [⟨x.s, [x]⟩]
def grp (xs : List Ri) : List Gp := xs.foldl putG []
theorem grp_snoc (xs : List Ri) (x : Ri) : grp (xs ++ [x]) = putG (grp xs) x := by simp [grp]
/-- the names, each once, by their first items -/
def addU (out : List ByteArray) (x : Ri) : List ByteArray := if out.any (fun s => s == x.s) then out else out ++ [x.s]
def namesU (xs : List Ri) : List ByteArray := xs.foldl addU []
theorem namesU_snoc (xs : List Ri) (x : Ri) : namesU (xs ++ [x]) = addU (namesU xs) x := by simp [namesU]
theorem ba_beq_comm (a b : ByteArray) : (a == b) = (b == a) := by
  by_cases h : a = b
  · subst h; rfl
  · rw [(str_otherD h).1, (str_otherD (Ne.symm h)).1]
theorem namesU_rev : ∀ r : List Ri, (∀ s, s ∈ namesU r.reverse ↔ ∃ x ∈ r, x.s = s) ∧ (namesU r.reverse).Nodup ∧ grp r.reverse = (namesU r.reverse).map (fun s => ⟨s, r.reverse.filter (fun x => x.s == s)⟩)
  | [] => ⟨fun s => by simp [namesU], by simp [namesU], by simp [namesU, grp]⟩
  | x :: r => by
    obtain ⟨h1, h2, h3⟩ := namesU_rev r
    rw [List.reverse_cons, namesU_snoc, grp_snoc, h3]
    have hany : (namesU r.reverse).any (fun s => s == x.s) = true ↔ x.s ∈ namesU r.reverse := by
      rw [List.any_eq_true]
      constructor
      · rintro ⟨s, hs, e⟩; rw [← (jba_beq _ _).1 e]; exact hs
      · intro h; exact ⟨_, h, (jba_beq _ _).2 rfl⟩
    have hany2 : ((namesU r.reverse).map (fun s => (⟨s, r.reverse.filter (fun x => x.s == s)⟩ : Gp))).any (fun g => g.s == x.s) = (namesU r.reverse).any (fun s => s == x.s) := by
      rw [List.any_map]; rfl
    unfold putG addU
    rw [hany2]
    by_cases hx : x.s ∈ namesU r.reverse
    · rw [if_pos (hany.2 hx), if_pos (hany.2 hx)]
      refine ⟨fun s => ?_, h2, ?_⟩
      · rw [h1]
        constructor
        · rintro ⟨y, hy, e⟩; exact ⟨y, List.mem_cons_of_mem _ hy, e⟩
        · rintro ⟨y, hy, e⟩
          rcases List.mem_cons.1 hy with rfl | hy
          · exact (h1 s).1 (e ▸ hx)
          · exact ⟨y, hy, e⟩
      · rw [List.map_map]
        apply List.map_congr_left
        intro s hs
        simp only [Function.comp]
        rw [List.filter_append]
        by_cases e : s = x.s
        · subst e
          rw [if_pos ((jba_beq _ _).2 rfl), List.filter_cons, if_pos ((jba_beq _ _).2 rfl)]
          rfl
        · rw [(str_otherD e).1, List.filter_cons, (str_otherD (Ne.symm e)).1]
          simp
    · have hf : ¬ ((namesU r.reverse).any (fun s => s == x.s) = true) := fun h => hx (hany.1 h)
      rw [if_neg hf, if_neg hf]
      refine ⟨fun s => ?_, ?_, ?_⟩
      · rw [List.mem_append, h1]
        constructor
        · rintro (⟨y, hy, e⟩ | hs)
          · exact ⟨y, List.mem_cons_of_mem _ hy, e⟩
          · exact ⟨x, List.mem_cons_self, (List.mem_singleton.1 hs).symm⟩
        · rintro ⟨y, hy, e⟩
          rcases List.mem_cons.1 hy with rfl | hy
          · exact .inr (by simp [e])
          · exact .inl ⟨y, hy, e⟩
      · rw [List.nodup_append]
        refine ⟨h2, by simp, fun a ha b hb => ?_⟩
        rw [List.mem_singleton] at hb
        subst hb
        exact fun e => hx (e ▸ ha)
      · rw [List.map_append]
        congr 1
        · apply List.map_congr_left
          intro s hs
          have e : ¬ x.s = s := fun e => hx (e ▸ hs)
          rw [List.filter_append, List.filter_cons, (str_otherD e).1]
          simp
        · have hno : r.reverse.filter (fun y => y.s == x.s) = [] := by
            rw [List.filter_eq_nil_iff]
            intro y hy h
            exact hx ((h1 _).2 ⟨y, List.mem_reverse.1 hy, (jba_beq _ _).1 h⟩)
          simp only [List.map_cons, List.map_nil, List.filter_append, hno, List.filter_cons, List.filter_nil]
          rw [if_pos ((jba_beq _ _).2 rfl)]
          rfl
theorem namesU_mem (xs : List Ri) (s : ByteArray) : s ∈ namesU xs ↔ ∃ x ∈ xs, x.s = s := by
  have h := (namesU_rev xs.reverse).1 s
  rw [List.reverse_reverse] at h
  rw [h]
  simp
theorem namesU_nodup (xs : List Ri) : (namesU xs).Nodup := by
  have h := (namesU_rev xs.reverse).2.1
  rwa [List.reverse_reverse] at h
theorem grp_eq (xs : List Ri) : grp xs = (namesU xs).map (fun s => ⟨s, xs.filter (fun x => x.s == s)⟩) := by
  have h := (namesU_rev xs.reverse).2.2
  rwa [List.reverse_reverse] at h
theorem grp_names (xs : List Ri) : (grp xs).map (·.s) = namesU xs := by
  rw [grp_eq, List.map_map]
  simp [Function.comp_def]
theorem grp_some {xs : List Ri} {g : Gp} (h : g ∈ grp xs) : ∃ y, g.l[0]? = some y ∧ y.s = g.s := by
  rw [grp_eq] at h
  obtain ⟨s, hs, rfl⟩ := List.mem_map.1 h
  obtain ⟨x, hx, e⟩ := (namesU_mem xs s).1 hs
  have hm : x ∈ xs.filter (fun x => x.s == s) := List.mem_filter.2 ⟨hx, (jba_beq _ _).2 e⟩
  simp only
  match hq : xs.filter (fun x => x.s == s) with
  | [] => rw [hq] at hm; simp at hm
  | y :: ys =>
    refine ⟨y, by rw [hq]; rfl, ?_⟩
    have hy : y ∈ xs.filter (fun x => x.s == s) := by rw [hq]; simp
    exact (jba_beq _ _).1 (List.mem_filter.1 hy).2
theorem namesU_le (xs : List Ri) : (namesU xs).length ≤ xs.length := by
  have key : ∀ r : List Ri, (namesU r.reverse).length ≤ r.length := by
    intro r
    induction r with
    | nil => simp [namesU]
    | cons x r ih =>
      rw [List.reverse_cons, namesU_snoc]
      unfold addU
      split <;> simp <;> omega
  have h := key xs.reverse
  rwa [List.reverse_reverse, List.length_reverse] at h
/-- where a name's row is -/
theorem any_at {G : List Gp} {s : ByteArray} (h : G.any (fun g => g.s == s) = true) : ∃ k, ∃ hk : k < G.length, G[k].s = s := by
  obtain ⟨g, hg, e⟩ := List.any_eq_true.1 h
  obtain ⟨k, hk, rfl⟩ := List.getElem_of_mem hg
  exact ⟨k, hk, (jba_beq _ _).1 e⟩
theorem nodup_at {l : List ByteArray} (h : l.Nodup) {i j : Nat} (hi : i < l.length) (hj : j < l.length) (e : l[i] = l[j]) : i = j := by
  have hp := List.pairwise_iff_getElem.1 h
  rcases Nat.lt_trichotomy i j with h1 | h1 | h1
  · exact absurd e (hp i j hi hj h1)
  · exact h1
  · exact absurd e.symm (hp j i hj hi h1)
theorem putG_old {G : List Gp} {x : Ri} (hn : (G.map (·.s)).Nodup) {k : Nat} (hk : k < G.length) (e : G[k].s = x.s) : putG G x = G.set k ⟨x.s, G[k].l ++ [x]⟩ := by
  unfold putG
  rw [if_pos (List.any_eq_true.2 ⟨_, List.getElem_mem hk, (jba_beq _ _).2 e⟩)]
  apply List.ext_getElem (by simp)
  intro i h1 h2
  rw [List.getElem_map, List.getElem_set]
  rw [List.length_map] at h1
  by_cases hi : k = i
  · subst hi
    rw [if_pos rfl, if_pos ((jba_beq _ _).2 e), e]
  · rw [if_neg hi]
    have : ¬ G[i].s = x.s := fun e2 => by
      exact hi (nodup_at hn (by simpa using hk) (by simpa using h1) (by rw [List.getElem_map, List.getElem_map, e, e2]))
    rw [(str_otherD this).1]
    simp
theorem putG_new {G : List Gp} {x : Ri} (h : G.any (fun g => g.s == x.s) = false) : putG G x = G ++ [⟨x.s, [x]⟩] := by
  unfold putG
  rw [h]
  simp
/-- places of names as a map's values -/
def ixR : Value → Option (DataW Unit × List MemPlace)
  | .int .i64 p => some (.lit (.int .i64 p), [])
  | _ => none
theorem ixR_of (p : Int) : ixR (.int .i64 p) = some (.lit (.int .i64 p), []) := rfl
theorem ixR_inv {v : Value} {p : Int} {ps : List MemPlace} (h : ixR v = some (.lit (.int .i64 p), ps)) : v = .int .i64 p := by
  unfold ixR at h
  split at h
  · simp only [Option.some.injEq, Prod.mk.injEq, DataW.lit.injEq, Lit.int.injEq, true_and] at h
    rw [h.1]
  · cases h
def IxAt (G : List ByteArray) (D : DataW Unit) : Prop := (∀ s : ByteArray, Maps.has D (slit s) = G.any (fun g => g == s)) ∧ ∀ j (hj : j < G.length) z, D.atKey (slit G[j]) z = .lit (.int .i64 (j : Int))
theorem ixAt_nil : IxAt [] (.map []) := ⟨fun s => by simp [Maps.has_eq], fun j hj => by simp at hj⟩
theorem ixAt_put {G : List ByteArray} {D : DataW Unit} (h : IxAt G D) (hD : Maps.IsMap D) {s : ByteArray} (hs : s ∉ G) : IxAt (G ++ [s]) (D.put (slit s) (.lit (.int .i64 (G.length : Int)))) := by
  refine ⟨fun t => ?_, fun j hj z => ?_⟩
  · rw [List.any_append]
    by_cases e : s = t
    · subst e
      rw [Maps.has_put_same hD (slit_key _)]
      simp [(jba_beq s s).2 rfl]
    · rw [Maps.has_put_other (fun e2 => e (slit_inj e2).symm), h.1]
      simp [(str_otherD e).1]
  · by_cases hj2 : j < G.length
    · rw [List.getElem_append_left hj2, Maps.atKey_put_other, h.2 j hj2]
      intro e
      exact hs (by first | (rw [← slit_inj e]; exact List.getElem_mem hj2) | (rw [slit_inj e]; exact List.getElem_mem hj2))
    · have e : j = G.length := by simp at hj; omega
      subst e
      rw [List.getElem_concat_length rfl]
      exact Maps.atKey_put_same hD (slit_key _) _ _
end Go.Proofs.Ytniolkjeblocaaa

namespace Go.Proofs.Ytniolkjeblocaaa
open Go.RowKit Go.Shelf

/-- what lay below B0, and each block of a module, lies as it lay -/
structure KeepM (B0 : Nat) (W W' : World) : Prop where
  low : Below B0 W W'
  same : ∀ (k : Nat) (cs : Array Value) (f : Nat × Nat), W.heap[k]? = some (.cells cs 25 f) → W'.heap[k]? = some (.cells cs 25 f)
theorem KeepM.trans {B0 : Nat} {A B C : World} (h : KeepM B0 A B) (k : KeepM B0 B C) : KeepM B0 A C := ⟨h.low.trans k.low, fun i cs f hi => k.same i cs f (h.same i cs f hi)⟩
theorem KeepM.below {B0 : Nat} {W W' : World} (hB : B0 ≤ W.heap.size) (h : Below W.heap.size W W') : KeepM B0 W W' := ⟨h.mono hB, fun i _ _ hi => (h.block i (Array.getElem?_eq_some_iff.1 hi).1).trans hi⟩
theorem KeepM.grown {B0 : Nat} {W W' : World} {row : Option Nat} (h : W.grownBy W' row) (hB : B0 ≤ W.heap.size) (hr : ∀ r, row = some r → B0 ≤ r ∧ ∀ cs f, W.heap[r]? ≠ some (.cells cs 25 f)) : KeepM B0 W W' :=
  ⟨below_grown h hB (fun r e => (hr r e).1), fun i cs f hi => (h.block i (Array.getElem?_eq_some_iff.1 hi).1 (fun e => (hr i e.symm).2 cs f hi)).trans hi⟩
theorem keepM_b {B0 : Nat} {w : World} (hB : B0 ≤ w.heap.size) (W : World) (l : Nat) (o o' : Obj) (hl : w.heap.size ≤ l) (h : W.heap[l]? = some o) (hc : o.isCells = false) (_ : o.isWalk = false) : KeepM B0 W (W.putObj l o') :=
  KeepM.grown (grownBy_putObj' W l o') (by have := (Array.getElem?_eq_some_iff.1 h).1; omega) (fun r e => by cases e; exact ⟨by omega, fun cs f hr => by rw [h] at hr; cases hr; cases hc⟩)
theorem allI_pre (ms : List Md) (k : Nat) : allI ms k <+: allI ms ms.length := by
  unfold allI
  rw [List.take_of_length_le (i := ms.length) (by simp)]
  refine ⟨((ms.zipIdx.drop k).map fun p => itemsOf (p.2 : Int) p.1).flatten, ?_⟩
  rw [← List.flatten_append, ← List.map_append, List.take_append_drop]
theorem selFn_pre (o : Int) (l : List Fn) (k : Nat) : selFn o (l.take k) <+: selFn o l := by
  refine ⟨selFn o (l.drop k), ?_⟩
  unfold selFn
  rw [← List.map_append, ← List.filter_append, List.take_append_drop]
theorem selGl_pre (o : Int) (l : List Gl) (k : Nat) : selGl o (l.take k) <+: selGl o l := by
  refine ⟨selGl o (l.drop k), ?_⟩
  unfold selGl
  rw [← List.map_append, ← List.filter_append, List.take_append_drop]
theorem items_in (n : Nat) (A : Option Addr) (na ca : Nat) (w : World) :
    CallsIn Fence.wide n Try.prog 69 #[.slice A na ca] w fun e w' => e = .returned (.func (.func 86) #[] #[.pointer (some ⟨w.heap.size, 0, none⟩)]) ∧ w' = w.alloc (.cells #[.slice A na ca] 28) := by
  refine callsIn_of_wp Try.func69 rfl trivial ?_ rfl
  simp only [Try.ntmps69, List.size_toArray, List.length_cons, List.length_nil, Nat.reduceAdd, Nat.reduceSub, Array.replicate_succ, Array.replicate_zero, List.push_toArray, List.append_toArray, List.nil_append, List.cons_append]
  gi_wp2
  go_ret
  exact ⟨rfl, by simp⟩
set_option maxRecDepth 100000 in
set_option maxHeartbeats 8000000 in
theorem items1_in (n : Nat) (hn : 1 ≤ n) (l B na ca : Nat) (C : Option Addr) (ms : List Md) (Q : Ri → Prop) (hQ : ∀ x ∈ allI ms ms.length, Q x)
    (w0 : World) (hna : ms.length = na) (hn9 : na ≤ 9223372036854775807) (hok : ∀ m ∈ ms, MdOk m) (hD : Mods w0 (.slice C na ca) ms)
    (J Jx : List {x // Q x} → World → Prop) (W : World) (hb0 : Below w0.heap.size w0 W) (hJ : AbidesFrom W.heap.size J)
    (hY : ∀ pre x W1, J pre W1 → pre.length < (allI ms ms.length).length → YieldAt Fence.wide (n - 1) Try.prog l #[riV x.1] W1 fun e W' =>
      (e = .returned (.bool true) ∧ J (pre ++ [x]) W' ∧ KeepM w0.heap.size W1 W') ∨ (e = .returned (.bool false) ∧ Jx (pre ++ [x]) W'))
    (hB : W.cell? ⟨B, 0, none⟩ = some (.slice C na ca)) (h0 : J [] W) :
    CallsIn Fence.wide n Try.prog 86 #[.func (.yield l) #[] #[], .pointer (some ⟨B, 0, none⟩)] W fun e W' => (∃ v, e = .returned v) ∧
      ((∃ ys, ys.map Subtype.val = allI ms ms.length ∧ J ys W') ∨ (∃ pre, (pre.map Subtype.val) <+: allI ms ms.length ∧ Jx pre W')) := by
  refine callsIn_of_wp Try.func86 rfl trivial ?_ rfl
  simp only [Try.ntmps86, List.size_toArray, List.length_cons, List.length_nil, Nat.reduceAdd, Nat.reduceSub, Array.replicate_succ, Array.replicate_zero, List.push_toArray, List.append_toArray, List.nil_append, List.cons_append]
  have HY := Lib.hid hY
  have HJ := Lib.hid hJ
  have H0 := Lib.hid h0
  have HQ := Lib.hid hQ
  have HD := Lib.hid hD
  have HB0 := Lib.hid hb0
  have HNA := Lib.hid (show ms.length ≤ na ∧ na ≤ ms.length by omega)
  have HOK := Lib.hid hok
  have HJ1 := Lib.hid (fun s W1 W' (h1 : J s W1) (hg : W1.grownBy W' none) => HJ.out s W1 W' none h1 hg (fun r e => by cases e))
  have n9 : (na : Int) ≤ 9223372036854775807 := by omega
  clear hY hJ h0 hQ hD hb0 hna hok hn9
  gi_wp2
  clear hB
  gi_loopw [11] (fun p wr => ∃ (k : Nat) (pre : List {x // Q x}), k ≤ na ∧ p = .int .i64 k ∧ pre.map Subtype.val = allI ms k ∧ J pre wr ∧ Below w0.heap.size w0 wr ∧ W.heap.size ≤ wr.heap.size)
    (fun p _ => na - (intOf p).toNat)
  case atStart => exact ⟨0, [], Nat.zero_le _, rfl, by simp [allI], H0.out, HB0.out, Nat.le_refl _⟩
  case round =>
    obtain ⟨k, pre, hk, rfl, he, hj, hb, hsz⟩ := hrel
    have HE := Lib.hid he
    have HJP := Lib.hid hj
    have HB := Lib.hid hb
    have HSZ := Lib.hid hsz
    clear he hj hb hsz
    by_cases hlt : k < na
    case neg =>
      have hd : decide ((k : Int) < (na : Int)) = false := by simp; omega
      gi_wp2
      go_end0
      exact ⟨⟨_, rfl⟩, .inl ⟨pre, by have h := HE.out; rwa [show k = ms.length by have := HNA.out; omega] at h, HJP.out⟩⟩
    have hm : k < ms.length := by have := HNA.out; omega
    obtain ⟨b1, off, hA, hml, F, cf, G, cg, d0, d1, hmd⟩ := RowOf.at_ HD.out hm
    subst hA
    have c0 := (cellNext hml HB.out _).trans d0
    have c1 := (cellNext hml HB.out _).trans d1
    have HSI := Lib.hid (allI_succ hm)
    have hmo := HOK.out _ (List.getElem_mem hm)
    have hpre := allI_pre ms (k + 1)
    rw [allI_succ hm] at hpre
    obtain ⟨m, hx⟩ : ∃ x, ms[k] = x := ⟨_, rfl⟩
    rw [hx] at c0 c1 hmd HSI hmo hpre
    have HPRE := Lib.hid (show allI ms k ++ (selFn (k : Int) m.f ++ selGl (k : Int) m.g) <+: allI ms ms.length from hpre)
    obtain ⟨nf, hnf⟩ : ∃ q, m.f.length = q := ⟨_, rfl⟩
    obtain ⟨ng, hng⟩ : ∃ q, m.g.length = q := ⟨_, rfl⟩
    rw [hnf] at c0 hmd
    rw [hng] at c1 hmd
    have HLnf := Lib.hid (show m.f.length ≤ nf ∧ nf ≤ m.f.length by omega)
    have HLng := Lib.hid (show m.g.length ≤ ng ∧ ng ≤ m.g.length by omega)
    have HF := Lib.hid hmd.1
    have HG := Lib.hid hmd.2
    have nf9 : (nf : Int) ≤ 9223372036854775807 := by have := hmo.2.2.1; omega
    have ng9 : (ng : Int) ≤ 9223372036854775807 := by have := hmo.2.2.2; omega
    have hk0 : (0 : Int) ≤ (k : Int) := Int.natCast_nonneg _
    have hk1 : (k : Int) < (na : Int) := by omega
    have HLT := Lib.hid hlt
    clear hx hm hlt hmd hmo hpre hnf hng hml d0 d1
    gi_wp2
    have HBK := Lib.hid (heap_alloc_new wr (.cells #[.slice F nf cf, .slice G ng cg] 25))
    have HJPx := Lib.hid (HJ1.out _ _ _ HJP.out (World.grownBy_alloc wr (.cells #[.slice F nf cf, .slice G ng cg] 25) none))
    have HBx := Lib.hid (HB.out.trans ((balloc (Below.refl _ wr) (.cells #[.slice F nf cf, .slice G ng cg] 25)).mono HB.out.size))
    have HSZx := Lib.hid (show W.heap.size ≤ (wr.alloc (.cells #[.slice F nf cf, .slice G ng cg] 25)).heap.size by have := HSZ.out; simp; omega)
    generalize wr.alloc (.cells #[.slice F nf cf, .slice G ng cg] 25) = W1 at *
    generalize wr.heap.size = BB at *
    clear c0 c1
    gi_loopw [19] (fun p wi => ∃ (j : Nat) (pr : List {x // Q x}), j ≤ nf ∧ p = .int .i64 j ∧ pr.map Subtype.val = allI ms k ++ selFn (k : Int) (m.f.take j) ∧ J pr wi ∧ Below w0.heap.size w0 wi ∧ W.heap.size ≤ wi.heap.size ∧ wi.heap[BB]? = some (.cells #[.slice F nf cf, .slice G ng cg] 25 (0, 0)))
      (fun p _ => nf - (intOf p).toNat)
    case atStart => exact ⟨0, pre, Nat.zero_le _, rfl, by rw [HE.out]; simp [selFn], HJPx.out, HBx.out, HSZx.out, HBK.out⟩
    case round =>
      obtain ⟨j, pr, hj, rfl, he, hjj, hb, hsz, hbk⟩ := hrel
      have HE2 := Lib.hid he
      have HJ2 := Lib.hid hjj
      have HB2 := Lib.hid hb
      have HSZ2 := Lib.hid hsz
      have HBK2 := Lib.hid hbk
      have q1 := Lib.cell_of_heap hbk 1
      simp only [List.getElem?_toArray, List.getElem?_cons_zero, List.getElem?_cons_succ] at q1
      clear he hjj hb hsz hbk
      by_cases hlj : j < nf
      case neg =>
        have hd : decide ((j : Int) < (nf : Int)) = false := by simp; omega
        have HE3 := Lib.hid (show pr.map Subtype.val = allI ms k ++ selFn (k : Int) m.f by
          rw [HE2.out, List.take_of_length_le (by have := HLnf.out; omega)])
        clear HE2
        gi_wp2
        clear q1
        gi_loopw [38] (fun p wi => ∃ (j : Nat) (pr : List {x // Q x}), j ≤ ng ∧ p = .int .i64 j ∧ pr.map Subtype.val = allI ms k ++ selFn (k : Int) m.f ++ selGl (k : Int) (m.g.take j) ∧ J pr wi ∧ Below w0.heap.size w0 wi ∧ W.heap.size ≤ wi.heap.size)
          (fun p _ => ng - (intOf p).toNat)
        case atStart => exact ⟨0, pr, Nat.zero_le _, rfl, by rw [HE3.out]; simp [selGl], HJ2.out, HB2.out, HSZ2.out⟩
        case round =>
          obtain ⟨j, pr, hj, rfl, he, hjj, hb, hsz⟩ := hrel
          have HE2 := Lib.hid he
          have HJ2 := Lib.hid hjj
          have HB2 := Lib.hid hb
          have HSZ2 := Lib.hid hsz
          clear he hjj hb hsz
          by_cases hlj : j < ng
          case neg =>
            have hd : decide ((j : Int) < (ng : Int)) = false := by simp; omega
            have HE4 := Lib.hid (show pr.map Subtype.val = allI ms (k + 1) by
              rw [HE2.out, List.take_of_length_le (by have := HLng.out; omega), HSI.out, List.append_assoc]
              rfl)
            gi_wp2
            go_roundw
            case rel => exact ⟨k + 1, pr, HLT.out, by go_num, HE4.out, HJ2.out, HB2.out, HSZ2.out⟩
            case measure => have := HLT.out; simp [intOf]; omega
          have hjm : j < m.g.length := by have := HLng.out; omega
          obtain ⟨b5, off5, hA5, hbl5, e0⟩ := RowOf.at_ HG.out hjm
          subst hA5
          obtain ⟨r0, r1, r2, r3⟩ := e0
          have g0 := (cellNext hbl5 HB2.out _).trans r0
          have g1 := (cellNext hbl5 HB2.out _).trans r1
          have g2 := (cellNext hbl5 HB2.out _).trans r2
          have g3 := (cellNext hbl5 HB2.out _).trans r3
          clear r0 r1 r2 r3
          have HSU := Lib.hid (selGl_succ (o := (k : Int)) hjm)
          have HPF := Lib.hid (show allI ms k ++ selFn (k : Int) m.f ++ selGl (k : Int) (m.g.take (j + 1)) <+: allI ms ms.length by
            refine List.IsPrefix.trans ?_ HPRE.out
            rw [← List.append_assoc]
            exact (List.prefix_append_right_inj _).2 (selGl_pre _ _ _))
          obtain ⟨⟨s0, b0, h0, q0⟩, hx⟩ : ∃ x, m.g[j] = x := ⟨_, rfl⟩
          rw [hx] at g0 g1 g2 g3 HSU
          dsimp only at g0 g1 g2 g3 HSU
          have i0 : (0 : Int) ≤ (j : Int) := Int.natCast_nonneg _
          have i1 : (j : Int) < (ng : Int) := by omega
          have HLJ := Lib.hid hlj
          have HGA := Lib.hid (World.grownBy_alloc wr (.cells #[.string s0, .int .i64 b0, .bool h0, .int .u64 q0] 60) none)
          have HBA := Lib.hid (HB2.out.trans ((balloc (Below.refl _ wr) (.cells #[.string s0, .int .i64 b0, .bool h0, .int .u64 q0] 60)).mono HB2.out.size))
          have HSA := Lib.hid (show W.heap.size ≤ (wr.alloc (.cells #[.string s0, .int .i64 b0, .bool h0, .int .u64 q0] 60)).heap.size by have := HSZ2.out; simp; omega)
          clear hx hjm hlj hbl5
          by_cases hq : b0 = 1
          · subst hq
            have HE4 := Lib.hid (show pr.map Subtype.val = allI ms k ++ selFn (k : Int) m.f ++ selGl (k : Int) (m.g.take (j + 1)) by rw [HE2.out, HSU.out]; simp)
            gi_wp2
            refine ⟨trivial, ?_⟩
            gi_wp2
            refine ⟨fun f e => (nomatch e), ?_⟩
            gi_wp2
            go_roundw
            case rel => exact ⟨j + 1, pr, HLJ.out, by go_num, HE4.out, HJ1.out _ _ _ HJ2.out HGA.out, HBA.out, HSA.out⟩
            case measure => have := HLJ.out; simp [intOf]; omega
          · have hq2 : (b0 == 1) = false := by simpa using hq
            rw [hq2, if_neg (by simp)] at HSU
            have HRI := Lib.hid (show ofG (k : Int) ⟨s0, b0, h0, q0⟩ = ⟨s0, (k : Int), false, 0, b0, h0⟩ from rfl)
            have hq3 : ¬ b0 = 1 := hq
            obtain ⟨x, hxx⟩ : ∃ x : {x // Q x}, x.1 = ⟨s0, (k : Int), false, 0, b0, h0⟩ := ⟨⟨_, HQ.out ⟨s0, (k : Int), false, 0, b0, h0⟩ (HPF.out.subset (by rw [HSU.out]; simp [HRI.out]))⟩, rfl⟩
            have HXX := Lib.hid (show riV x.1 = riV ⟨s0, (k : Int), false, 0, b0, h0⟩ by rw [hxx])
            have HE4 := Lib.hid (show (pr ++ [x]).map Subtype.val = allI ms k ++ selFn (k : Int) m.f ++ selGl (k : Int) (m.g.take (j + 1)) by rw [List.map_append, HE2.out, HSU.out, ← List.append_assoc, List.map_cons, List.map_nil, hxx, HRI.out])
            have HLEN := Lib.hid (show pr.length < (allI ms ms.length).length by
              have h1 := HPF.out.length_le
              rw [← HE4.out] at h1
              simp at h1
              omega)
            have HPX := Lib.hid (show (pr ++ [x]).map Subtype.val <+: allI ms ms.length by rw [HE4.out]; exact HPF.out)
            clear hxx
            gi_wp2
            refine ⟨trivial, ?_⟩
            refine (ofGlob_in _ s0 b0 (k : Int) q0 h0 _).mono ?_
            rintro e w2 ⟨rfl, hg2⟩
            have HJ3 := Lib.hid (HJ1.out _ _ _ (HJ1.out _ _ _ HJ2.out HGA.out) hg2)
            have HB3 := Lib.hid (HBA.out.trans (below_grown hg2 HBA.out.size (fun r e => by cases e)))
            have HSZ3 := Lib.hid (Nat.le_trans HSA.out hg2.size)
            clear hg2
            have hy0 := HY.out pr x w2 HJ3.out HLEN.out
            rw [HXX.out] at hy0
            obtain ⟨fn, tmps, assign, body, hy, hR⟩ := hy0
            have HR := Lib.hid hR
            clear hR
            gi_wp2
            refine HR.out.mono ?_
            rintro e W3 (⟨rfl, hJ3, hk3⟩ | ⟨rfl, hJx3⟩)
            · have HJ4 := Lib.hid hJ3
              have HB4 := Lib.hid (HB3.out.trans hk3.low)
              have HSZ4 := Lib.hid (Nat.le_trans HSZ3.out hk3.low.size)
              clear hJ3 hk3
              gi_wp2
              go_roundw
              case rel => exact ⟨j + 1, pr ++ [x], HLJ.out, by go_num, HE4.out, HJ4.out, HB4.out, HSZ4.out⟩
              case measure => have := HLJ.out; simp [intOf]; omega
            · gi_wp2
              refine bodyPost_ret (results_none rfl _ _ _) rfl ?_
              exact ⟨⟨_, rfl⟩, .inr ⟨pr ++ [x], HPX.out, hJx3⟩⟩
      have hjm : j < m.f.length := by have := HLnf.out; omega
      obtain ⟨b5, off5, hA5, hbl5, e0⟩ := RowOf.at_ HF.out hjm
      subst hA5
      obtain ⟨r0, r1, r2, A4, z4, r3, -⟩ := e0
      have g0 := (cellNext hbl5 HB2.out _).trans r0
      have g1 := (cellNext hbl5 HB2.out _).trans r1
      have g2 := (cellNext hbl5 HB2.out _).trans r2
      have g3 := (cellNext hbl5 HB2.out _).trans r3
      clear r0 r1 r2 r3
      have HSU := Lib.hid (selFn_succ (o := (k : Int)) hjm)
      have HPF := Lib.hid (show allI ms k ++ selFn (k : Int) (m.f.take (j + 1)) <+: allI ms ms.length by
        refine List.IsPrefix.trans ?_ HPRE.out
        exact (List.prefix_append_right_inj _).2 (List.IsPrefix.trans (selFn_pre _ _ _) (List.prefix_append _ _)))
      obtain ⟨⟨s0, b0, p0, l0⟩, hx⟩ : ∃ x, m.f[j] = x := ⟨_, rfl⟩
      rw [hx] at g0 g1 g2 g3 HSU
      dsimp only at g0 g1 g2 g3 HSU
      obtain ⟨L4, hL4⟩ : ∃ L4, l0.length = L4 := ⟨_, rfl⟩
      have HRI := Lib.hid (show ofF (k : Int) ⟨s0, b0, p0, l0⟩ = ⟨s0, (k : Int), true, p0, b0, decide (0 < L4)⟩ by rw [← hL4]; rfl)
      rw [hL4] at g3
      clear hL4
      have i0 : (0 : Int) ≤ (j : Int) := Int.natCast_nonneg _
      have i1 : (j : Int) < (nf : Int) := by omega
      have HLJ := Lib.hid hlj
      have HGA := Lib.hid (World.grownBy_alloc wr (.cells #[.string s0, .int .i64 b0, .int .i64 p0, .slice A4 L4 z4] 57) none)
      have HBA := Lib.hid (HB2.out.trans ((balloc (Below.refl _ wr) (.cells #[.string s0, .int .i64 b0, .int .i64 p0, .slice A4 L4 z4] 57)).mono HB2.out.size))
      have HSA := Lib.hid (show W.heap.size ≤ (wr.alloc (.cells #[.string s0, .int .i64 b0, .int .i64 p0, .slice A4 L4 z4] 57)).heap.size by have := HSZ2.out; simp; omega)
      have HBKA := Lib.hid (((balloc (Below.refl _ wr) (.cells #[.string s0, .int .i64 b0, .int .i64 p0, .slice A4 L4 z4] 57)).block BB (Array.getElem?_eq_some_iff.1 HBK2.out).1).trans HBK2.out)
      clear hx hjm hlj hbl5 q1
      by_cases hq : b0 = 1
      · subst hq
        have HE4 := Lib.hid (show pr.map Subtype.val = allI ms k ++ selFn (k : Int) (m.f.take (j + 1)) by rw [HE2.out, HSU.out]; simp)
        gi_wp2
        refine ⟨trivial, ?_⟩
        gi_wp2
        refine ⟨fun f e => (nomatch e), ?_⟩
        gi_wp2
        go_roundw
        case rel => exact ⟨j + 1, pr, HLJ.out, by go_num, HE4.out, HJ1.out _ _ _ HJ2.out HGA.out, HBA.out, HSA.out, HBKA.out⟩
        case measure => have := HLJ.out; simp [intOf]; omega
      · have hq2 : (b0 == 1) = false := by simpa using hq
        rw [hq2, if_neg (by simp)] at HSU
        have hq3 : ¬ b0 = 1 := hq
        obtain ⟨x, hxx⟩ : ∃ x : {x // Q x}, x.1 = ⟨s0, (k : Int), true, p0, b0, decide (0 < L4)⟩ := ⟨⟨_, HQ.out ⟨s0, (k : Int), true, p0, b0, decide (0 < L4)⟩ (HPF.out.subset (by rw [HSU.out]; simp [HRI.out]))⟩, rfl⟩
        have HXX := Lib.hid (show riV x.1 = riV ⟨s0, (k : Int), true, p0, b0, decide (0 < L4)⟩ by rw [hxx])
        have HE4 := Lib.hid (show (pr ++ [x]).map Subtype.val = allI ms k ++ selFn (k : Int) (m.f.take (j + 1)) by rw [List.map_append, HE2.out, HSU.out, ← List.append_assoc, List.map_cons, List.map_nil, hxx, HRI.out])
        have HLEN := Lib.hid (show pr.length < (allI ms ms.length).length by
          have h1 := HPF.out.length_le
          rw [← HE4.out] at h1
          simp at h1
          omega)
        have HPX := Lib.hid (show (pr ++ [x]).map Subtype.val <+: allI ms ms.length by rw [HE4.out]; exact HPF.out)
        clear hxx
        gi_wp2
        refine ⟨trivial, ?_⟩
        refine (ofFunc_in _ s0 b0 p0 (k : Int) A4 L4 z4 _).mono ?_
        rintro e w2 ⟨rfl, hg2⟩
        have HJ3 := Lib.hid (HJ1.out _ _ _ (HJ1.out _ _ _ HJ2.out HGA.out) hg2)
        have HB3 := Lib.hid (HBA.out.trans (below_grown hg2 HBA.out.size (fun r e => by cases e)))
        have HSZ3 := Lib.hid (Nat.le_trans HSA.out hg2.size)
        have HBK3 := Lib.hid ((hg2.block BB (Array.getElem?_eq_some_iff.1 HBKA.out).1 (by simp)).trans HBKA.out)
        clear hg2
        have hy0 := HY.out pr x w2 HJ3.out HLEN.out
        rw [HXX.out] at hy0
        obtain ⟨fn, tmps, assign, body, hy, hR⟩ := hy0
        have HR := Lib.hid hR
        clear hR
        gi_wp2
        refine HR.out.mono ?_
        rintro e W3 (⟨rfl, hJ3, hk3⟩ | ⟨rfl, hJx3⟩)
        · have HJ4 := Lib.hid hJ3
          have HB4 := Lib.hid (HB3.out.trans hk3.low)
          have HSZ4 := Lib.hid (Nat.le_trans HSZ3.out hk3.low.size)
          have HBK4 := Lib.hid (hk3.same BB _ _ HBK3.out)
          clear hJ3 hk3
          gi_wp2
          go_roundw
          case rel => exact ⟨j + 1, pr ++ [x], HLJ.out, by go_num, HE4.out, HJ4.out, HB4.out, HSZ4.out, HBK4.out⟩
          case measure => have := HLJ.out; simp [intOf]; omega
        · gi_wp2
          refine bodyPost_ret (results_none rfl _ _ _) rfl ?_
          exact ⟨⟨_, rfl⟩, .inr ⟨pr ++ [x], HPX.out, hJx3⟩⟩
/-- what items hands back, for a loop over it -/
theorem items_stops (n : Nat) (hn : 1 ≤ n) (B na ca : Nat) (C : Option Addr) (ms : List Md) (Q : Ri → Prop) (hQ : ∀ x ∈ allI ms ms.length, Q x)
    (w0 w : World) (hna : ms.length = na) (hn9 : na ≤ 9223372036854775807) (hok : ∀ m ∈ ms, MdOk m) (hD : Mods w0 (.slice C na ca) ms)
    (hb0 : Below w0.heap.size w0 w) (hB : w.cell? ⟨B, 0, none⟩ = some (.slice C na ca)) :
    SeqStopsK Fence.wide n Try.prog 86 #[.pointer (some ⟨B, 0, none⟩)] (fun x : {x // Q x} => #[riV x.1]) (KeepM w0.heap.size)
      (fun ys => ys.map Subtype.val = allI ms ms.length) (fun pre => (pre.map Subtype.val) <+: allI ms ms.length) (allI ms ms.length).length w := fun l J Jx W hW hJ _ hY h0 =>
  items1_in n hn l B na ca C ms Q hQ w0 hna hn9 hok hD J Jx W (hb0.trans (hW.mono hb0.size)) hJ hY ((hW.cell (p := ⟨B, 0, none⟩) (World.block_lt_of_cell? w _ hB)).trans hB) h0
end Go.Proofs.Ytniolkjeblocaaa

namespace Go.Proofs.Ytniolkjeblocaaa
open Go.RowKit Go.Maps

/-- a name, its items, and where they lie -/
structure Gv where
  s : ByteArray
  l : List Ri
  v : Value
def gOf (g : Gv) : Gp := ⟨g.s, g.l⟩
def riC (x : Ri) : List Value := [.string x.s, .int .i64 x.o, .bool x.f, .int .i64 x.p, .int .i64 x.b, .bool x.h]
def itC (l : List Ri) : List Value := (l.map riC).flatten
def shC (g : Gv) : List Value := [.string g.s, g.v]
def rwC (R : List Gv) : List Value := (R.map shC).flatten
theorem flat_len {α : Type} (f : α → List Value) (sz : Nat) (hf : ∀ x, (f x).length = sz) : ∀ l : List α, ((l.map f).flatten).length = l.length * sz
  | [] => by simp
  | x :: l => by
    rw [List.map_cons, List.flatten_cons, List.length_append, flat_len f sz hf l, hf, List.length_cons, Nat.add_mul, Nat.one_mul, Nat.add_comm]
theorem flat_at {α : Type} (f : α → List Value) (sz : Nat) (hf : ∀ x, (f x).length = sz) : ∀ (l : List α) (k : Nat) (hk : k < l.length) (c : Nat), c < sz → ((l.map f).flatten)[k * sz + c]? = (f l[k])[c]?
  | [], k, hk, c, _ => by simp at hk
  | x :: l, 0, hk, c, hc => by
    rw [List.map_cons, List.flatten_cons, Nat.zero_mul, Nat.zero_add, List.getElem?_append_left (by rw [hf]; exact hc)]
    rfl
  | x :: l, k + 1, hk, c, hc => by
    have hk' : k < l.length := by simpa using hk
    rw [List.map_cons, List.flatten_cons, List.getElem?_append_right (by rw [hf, Nat.add_mul]; omega), hf, show (k + 1) * sz + c - sz = k * sz + c by rw [Nat.add_mul]; omega, flat_at f sz hf l k hk' c hc]
    rfl
theorem itC_snoc (l : List Ri) (x : Ri) : itC (l ++ [x]) = itC l ++ riC x := by simp [itC]
theorem rwC_snoc (R : List Gv) (g : Gv) : rwC (R ++ [g]) = rwC R ++ [.string g.s, g.v] := by simp [rwC, shC]
theorem rwC_set : ∀ (R : List Gv) (k : Nat) (hk : k < R.length) (l' : List Ri) (v' : Value), (rwC R).set (k * 2 + 1) v' = rwC (R.set k ⟨R[k].s, l', v'⟩)
  | [], k, hk, _, _ => by simp at hk
  | g :: R, 0, hk, l', v' => by simp [rwC, shC]
  | g :: R, k + 1, hk, l', v' => by
    have hk' : k < R.length := by simpa using hk
    have h := rwC_set R k hk' l' v'
    rw [show (k + 1) * 2 + 1 = (k * 2 + 1) + 1 + 1 by omega]
    show (.string g.s :: g.v :: rwC R).set ((k * 2 + 1) + 1 + 1) v' = _
    rw [List.set_cons_succ, List.set_cons_succ, h]
    simp [rwC, shC]
theorem ris_of {W : World} {base : Nat} {v : Value} {l : List Ri} (ho : W.ownsRow base 130 6 v l.length (itC l)) : ∃ A c, v = .slice A l.length c ∧ l.length ≤ c ∧ Ris W v l := by
  by_cases hl : 0 < l.length
  · obtain ⟨g, cap, e, hc, hlt⟩ := ho.form hl
    subst e
    refine ⟨_, cap, rfl, ?_, .inr ⟨hl, g, 0, cap, rfl, hlt, fun i hi => ?_⟩⟩
    · rcases ho.2 with ⟨e, _⟩ | ⟨g', cap', cur, e, _, _, hnc, _⟩
      · exact absurd e (by simp)
      · obtain ⟨-, -, rfl⟩ := Value.slice.inj e
        exact hnc
    · have q : ∀ c, c < 6 → W.cell? ⟨g, 0 + i * 6 + c, none⟩ = (riC l[i])[c]? := fun c hc => by
        rw [Nat.zero_add, ← flat_at riC 6 (fun _ => rfl) l i hi c hc]
        exact ho.cellAt _ (by omega)
      exact ⟨q 0 (by omega), q 1 (by omega), q 2 (by omega), q 3 (by omega), q 4 (by omega), q 5 (by omega)⟩
  · have hl0 : l = [] := by cases l <;> simp_all
    subst hl0
    rcases ho.2 with ⟨e, _⟩ | ⟨g, cap, cur, e, _, _, hnc, _⟩
    · exact ⟨none, 0, e, Nat.le_refl _, .inl ⟨rfl, .inl e⟩⟩
    · exact ⟨_, _, e, hnc, .inl ⟨rfl, .inr ⟨_, _, e⟩⟩⟩
/-- a name as it lies -/
def ShIn (W : World) (b off : Nat) (g : Gp) : Prop := W.cell? ⟨b, off, none⟩ = some (.string g.s) ∧ ∃ A c, W.cell? ⟨b, off + 1, none⟩ = some (.slice A g.l.length c) ∧ g.l.length ≤ c ∧ Ris W (.slice A g.l.length c) g.l
theorem ShIn.next (W W' : World) (b off : Nat) (x : Gp) (hb : b < W.heap.size) (h : Below W.heap.size W W') (hx : ShIn W b off x) : ShIn W' b off x := by
  obtain ⟨h0, A, c, h1, h2, h3⟩ := hx
  exact ⟨(cellNext hb h _).trans h0, A, c, (cellNext hb h _).trans h1, h2, h3.next h⟩
def Shs : World → Value → List Gp → Prop := RowOf 2 ShIn
theorem Shs.next {W W' : World} {v : Value} {l : List Gp} (h : Shs W v l) (hb : Below W.heap.size W W') : Shs W' v l := RowOf.next ShIn.next h hb
/-- rows of names, each with its items in a block of their own -/
structure RowsAt (base B mb : Nat) (R : List Gv) (v : Value) (W : World) : Prop where
  own : W.ownsRow base 87 2 v R.length (rwC R)
  its : ∀ i (hi : i < R.length), W.ownsRow base 130 6 R[i].v R[i].l.length (itC R[i].l)
  vB : v.ownBlock ≠ some B ∧ v.ownBlock ≠ some mb
  far : ∀ i (hi : i < R.length), R[i].v.ownBlock ≠ some B ∧ R[i].v.ownBlock ≠ some mb ∧ ∀ q, R[i].v.ownBlock = some q → v.ownBlock ≠ some q
  apart : ∀ i j (hi : i < R.length) (hj : j < R.length), i ≠ j → ∀ q, R[i].v.ownBlock = some q → R[j].v.ownBlock ≠ some q
theorem RowsAt.shs {base B mb : Nat} {R : List Gv} {v : Value} {W : World} (h : RowsAt base B mb R v W) : Shs W v (R.map gOf) := by
  by_cases hl : 0 < R.length
  · obtain ⟨g, cap, e, -, hlt⟩ := h.own.form hl
    have ho := h.own
    subst e
    refine .inr ⟨by simpa using hl, g, 0, cap, by simp, hlt, fun i hi => ?_⟩
    have hi' : i < R.length := by simpa using hi
    have q : ∀ c, c < 2 → W.cell? ⟨g, 0 + i * 2 + c, none⟩ = (shC R[i])[c]? := fun c hc => by
      rw [Nat.zero_add, ← flat_at shC 2 (fun _ => rfl) R i hi' c hc]
      exact ho.cellAt _ (by omega)
    obtain ⟨A, c, e, hc, hr⟩ := ris_of (h.its i hi')
    rw [List.getElem_map]
    refine ⟨q 0 (by omega), A, c, ?_, hc, ?_⟩
    · have h1 := q 1 (by omega)
      rw [show (shC R[i])[1]? = some R[i].v from rfl, e] at h1
      exact h1
    · show Ris W (.slice A R[i].l.length c) R[i].l
      rw [← e]
      exact hr
  · have hl0 : R = [] := by cases R <;> simp_all
    subst hl0
    rcases h.own.2 with ⟨e, _⟩ | ⟨g, cap, cur, e, _⟩
    · exact .inl ⟨rfl, .inl e⟩
    · exact .inl ⟨rfl, .inr ⟨_, _, e⟩⟩
theorem RowsAt.keep {base B mb : Nat} {R : List Gv} {v : Value} {W W' : World} (h : RowsAt base B mb R v W) (hs : ∀ q, base ≤ q → q < W.heap.size → q ≠ B → q ≠ mb → W'.heap[q]? = W.heap[q]?) : RowsAt base B mb R v W' :=
  ⟨ownsRow_atv h.own (fun g hg => hs g (h.own.lt g hg).1 (h.own.lt g hg).2 (fun e => h.vB.1 (by rw [hg, e])) (fun e => h.vB.2 (by rw [hg, e]))),
   fun i hi => ownsRow_atv (h.its i hi) (fun g hg => hs g ((h.its i hi).lt g hg).1 ((h.its i hi).lt g hg).2 (fun e => (h.far i hi).1 (by rw [hg, e])) (fun e => (h.far i hi).2.1 (by rw [hg, e]))),
   h.vB, h.far, h.apart⟩
/-- a name more -/
theorem RowsAt.more {base B mb : Nat} {R : List Gv} {v : Value} {W W' : World} (h : RowsAt base B mb R v W) (hB : B < W.heap.size) (hmb : mb < W.heap.size) {g cap : Nat} {s : ByteArray} (hg : W.grownBy W' v.ownBlock)
    (ho : W'.ownsRow base 87 2 (.slice (some ⟨g, 0, none⟩) (R.length + 1) cap) (R.length + 1) (rwC R ++ [.string s, .slice none 0 0])) (hgg : v.ownBlock = some g ∨ W.heap.size ≤ g) :
    RowsAt base B mb (R ++ [⟨s, [], .slice none 0 0⟩]) (.slice (some ⟨g, 0, none⟩) (R.length + 1) cap) W' := by
  refine ⟨?_, fun i hi => ?_, ?_, fun i hi => ?_, fun i j hi hj hij q => ?_⟩
  · rw [rwC_snoc, List.length_append]; exact ho
  · by_cases hil : i < R.length
    · rw [List.getElem_append_left hil]
      exact ownsRow_atv (h.its i hil) (fun q hq => hg.block q ((h.its i hil).lt q hq).2 (fun e => (h.far i hil).2.2 q hq e.symm))
    · have e : i = R.length := by simp at hi; omega
      subst e
      rw [List.getElem_concat_length rfl]
      exact World.ownsRow_nil _ _ _ _
  · constructor
    · show some g ≠ some B
      rcases hgg with e | e
      · rw [← e]; exact h.vB.1
      · intro e2; have := Option.some.inj e2; omega
    · show some g ≠ some mb
      rcases hgg with e | e
      · rw [← e]; exact h.vB.2
      · intro e2; have := Option.some.inj e2; omega
  · by_cases hil : i < R.length
    · rw [List.getElem_append_left hil]
      obtain ⟨f1, f2, f3⟩ := h.far i hil
      refine ⟨f1, f2, fun q hq => ?_⟩
      show some g ≠ some q
      rcases hgg with e | e
      · rw [← e]; exact f3 q hq
      · intro e2
        have := Option.some.inj e2
        have := ((h.its i hil).lt q hq).2
        omega
    · have e : i = R.length := by simp at hi; omega
      subst e
      rw [List.getElem_concat_length rfl]
      exact ⟨by simp [Value.ownBlock], by simp [Value.ownBlock], fun q hq => by simp [Value.ownBlock] at hq⟩
  · by_cases hil : i < R.length
    · rw [List.getElem_append_left hil]
      by_cases hjl : j < R.length
      · rw [List.getElem_append_left hjl]
        exact h.apart i j hil hjl hij q
      · have e : j = R.length := by simp at hj; omega
        subst e
        rw [List.getElem_concat_length rfl]
        intro _
        simp [Value.ownBlock]
    · have e : i = R.length := by simp at hi; omega
      subst e
      rw [List.getElem_concat_length rfl]
      intro hq
      simp [Value.ownBlock] at hq
/-- an item more -/
theorem RowsAt.item {base B mb : Nat} {R : List Gv} {W W1 : World} {g cap : Nat} (h : RowsAt base B mb R (.slice (some ⟨g, 0, none⟩) R.length cap) W) (hB : B < W.heap.size) (hmb : mb < W.heap.size) {k : Nat} (hk : k < R.length) {x : Ri} {p cp : Nat} (hg : W.grownBy W1 R[k].v.ownBlock)
    (ho : W1.ownsRow base 130 6 (.slice (some ⟨p, 0, none⟩) (R[k].l.length + 1) cp) (R[k].l.length + 1) (itC R[k].l ++ riC x)) (hpp : R[k].v.ownBlock = some p ∨ W.heap.size ≤ p) :
    RowsAt base B mb (R.set k ⟨R[k].s, R[k].l ++ [x], .slice (some ⟨p, 0, none⟩) (R[k].l.length + 1) cp⟩) (.slice (some ⟨g, 0, none⟩) R.length cap) (W1.setCell ⟨g, k * 2 + 1, none⟩ (.slice (some ⟨p, 0, none⟩) (R[k].l.length + 1) cp)) := by
  have hgl : g < W.heap.size := (h.own.lt g rfl).2
  have hpg : p ≠ g := by
    rcases hpp with e | e
    · intro e2; subst e2; exact (h.far k hk).2.2 p e rfl
    · omega
  have ho1 : W1.ownsRow base 87 2 (.slice (some ⟨g, 0, none⟩) R.length cap) R.length (rwC R) := ownsRow_atv h.own (fun q hq => hg.block q (h.own.lt q hq).2 (fun e => (h.far k hk).2.2 q e.symm hq))
  refine ⟨?_, fun i hi => ?_, h.vB, fun i hi => ?_, fun i j hi hj hij q => ?_⟩
  · rw [← rwC_set R k hk, List.length_set]
    exact (ho1.stored _ _).1
  · have hil : i < R.length := by simpa using hi
    rw [List.getElem_set]
    by_cases hki : k = i
    · subst hki
      rw [if_pos rfl]
      show World.ownsRow _ _ _ _ _ (R[k].l ++ [x]).length (itC (R[k].l ++ [x]))
      rw [itC_snoc, List.length_append]
      exact ownsRow_atv ho (fun q hq => Below.heap_setCell _ _ _ _ (by simp only [Value.ownBlock, Option.some.injEq] at hq; show q ≠ g; omega))
    · rw [if_neg hki]
      have hI := h.its i hil
      exact ownsRow_atv hI (fun q hq => (Below.heap_setCell _ _ _ _ (by
        show q ≠ g
        intro e; subst e
        exact (h.far i hil).2.2 q hq rfl)).trans (hg.block q (hI.lt q hq).2 (fun e => h.apart k i hk hil hki q e.symm hq)))
  · have hil : i < R.length := by simpa using hi
    rw [List.getElem_set]
    by_cases hki : k = i
    · subst hki
      rw [if_pos rfl]
      obtain ⟨f1, f2, f3⟩ := h.far k hk
      refine ⟨?_, ?_, fun q hq => ?_⟩
      · show some p ≠ some B
        rcases hpp with e | e
        · rw [← e]; exact f1
        · intro e2; have := Option.some.inj e2; omega
      · show some p ≠ some mb
        rcases hpp with e | e
        · rw [← e]; exact f2
        · intro e2; have := Option.some.inj e2; omega
      · have e := Option.some.inj (show some p = some q from hq)
        subst e
        show some g ≠ some p
        exact fun e2 => hpg (Option.some.inj e2).symm
    · rw [if_neg hki]
      exact h.far i hil
  · have hil : i < R.length := by simpa using hi
    have hjl : j < R.length := by simpa using hj
    rw [List.getElem_set, List.getElem_set]
    by_cases hki : k = i
    · subst hki
      rw [if_pos rfl, if_neg hij]
      intro hq
      have e := Option.some.inj (show some p = some q from hq)
      subst e
      rcases hpp with e | e
      · exact h.apart k j hk hjl hij p e
      · intro e2
        have := ((h.its j hjl).lt p e2).2
        omega
    · rw [if_neg hki]
      by_cases hkj : k = j
      · subst hkj
        rw [if_pos rfl]
        intro hq e2
        have e := Option.some.inj (show some p = some q from e2)
        subst e
        rcases hpp with e | e
        · exact h.apart i k hil hk hij p hq e
        · have := ((h.its i hil).lt p hq).2
          omega
      · rw [if_neg hkj]
        exact h.apart i j hil hjl hij q
/-- the table behind a pointer -/
structure TabAt (w0 : World) (B mb : Nat) (R : List Gv) (v : Value) (W : World) : Prop where
  cell : W.heap[B]? = some (.cells #[v, .map (some mb)] 82 (0, 0))
  rows : RowsAt w0.heap.size B mb R v W
  map : ∃ D, W.ownsMap Try.prog 9 ixR mb R.length D ∧ IxAt (R.map (·.s)) D
  low : Below w0.heap.size w0 W
  hB : w0.heap.size ≤ B
  hmb : w0.heap.size ≤ mb
  ne : B ≠ mb
  nod : (R.map (·.s)).Nodup
theorem TabAt.quiet {w0 W W' : World} {B mb : Nat} {R : List Gv} {v : Value} (h : TabAt w0 B mb R v W) (hb : Below W.heap.size W W') : TabAt w0 B mb R v W' := by
  obtain ⟨D, hm, hx⟩ := h.map
  exact ⟨(hb.block B (Array.getElem?_eq_some_iff.1 h.cell).1).trans h.cell, h.rows.keep (fun q _ q1 _ _ => hb.block q q1), ⟨D, hm.kept (w' := W') (row := none) ⟨hb.os, hb.tape, hb.output, hb.size, fun k hk _ => hb.block k hk⟩ (by simp), hx⟩, bthen h.low hb, h.hB, h.hmb, h.ne, h.nod⟩
end Go.Proofs.Ytniolkjeblocaaa

namespace Go.Proofs.Ytniolkjeblocaaa
open Go.RowKit Go.Maps

/-- what lay below B0, each block of a module, and whatever is no cells but the map, lies as it lay -/
structure KeepP (B0 mb : Nat) (W W' : World) : Prop where
  m : KeepM B0 W W'
  f : KeepsFrom (mb + 1) W W'
theorem KeepP.trans {B0 mb : Nat} {A B C : World} (h : KeepP B0 mb A B) (k : KeepP B0 mb B C) : KeepP B0 mb A C := ⟨h.m.trans k.m, h.f.trans k.f⟩
theorem KeepP.below {B0 mb : Nat} {W W' : World} (hB : B0 ≤ W.heap.size) (h : Below W.heap.size W W') : KeepP B0 mb W W' := ⟨KeepM.below hB h, ⟨h.size, fun k _ _ hk _ => (h.block k (Array.getElem?_eq_some_iff.1 hk).1).trans hk⟩⟩
theorem KeepP.cells {B0 mb : Nat} {W W' : World} {row : Option Nat} (h : W.grownBy W' row) (hB : B0 ≤ W.heap.size) (hr : ∀ r, row = some r → B0 ≤ r ∧ ∃ cs t f, W.heap[r]? = some (.cells cs t f) ∧ t ≠ 25) : KeepP B0 mb W W' :=
  ⟨KeepM.grown h hB (fun r e => by
    obtain ⟨h1, cs, t, f, h2, h3⟩ := hr r e
    refine ⟨h1, fun cs' f' e' => ?_⟩
    rw [h2] at e'
    cases e'
    exact h3 rfl), keeps_grown h (fun r e => by
    obtain ⟨h1, cs, t, f, h2, h3⟩ := hr r e
    exact ⟨cs, t, f, h2⟩)⟩
theorem KeepP.map {B0 mb : Nat} {W W' : World} (h : W.grownBy W' (some mb)) (hB : B0 ≤ W.heap.size) (hm : B0 ≤ mb) (hr : ∀ cs f, W.heap[mb]? ≠ some (.cells cs 25 f)) : KeepP B0 mb W W' :=
  ⟨KeepM.grown h hB (fun r e => by cases e; exact ⟨hm, hr⟩), KeepsFrom.of_grownBy h (fun j e => by cases e; omega)⟩
theorem TabAt.look_is {w0 U : World} {B mb : Nat} {R : List Gv} {v : Value} (h : TabAt w0 B mb R v U) {k : Nat} (hk : k < R.length) {s : ByteArray} (e : R[k].s = s) (hs : s.size < 9223372036854775808) :
    (Instr.lookup 80 (.map (some mb)) (.string s) true).run Try.prog U = .ok (.tuple #[.int .i64 (k : Int), .bool true]) U := by
  obtain ⟨D, hm, h1, h2⟩ := h.map
  obtain ⟨v, ps, hr, hv⟩ := hm.look_ok skeyed Try.underlying80 (Try.zeroValue3 U) (ixR_of 0) (skey_of hs)
  have h3 := h2 k (by simpa using hk) (.lit (.int .i64 0))
  rw [List.getElem_map, e] at h3
  rw [h3] at hv
  rw [hr, ixR_inv hv, h1, List.any_map, List.any_eq_true.2 ⟨R[k], List.getElem_mem hk, (jba_beq _ _).2 e⟩]
theorem TabAt.look_no {w0 U : World} {B mb : Nat} {R : List Gv} {v : Value} (h : TabAt w0 B mb R v U) {s : ByteArray} (e : (R.map gOf).any (fun g => g.s == s) = false) (hs : s.size < 9223372036854775808) :
    (Instr.lookup 80 (.map (some mb)) (.string s) true).run Try.prog U = .ok (.tuple #[.int .i64 0, .bool false]) U := by
  obtain ⟨D, hm, h1, h2⟩ := h.map
  obtain ⟨v, ps, hr, hv⟩ := hm.look_ok skeyed Try.underlying80 (Try.zeroValue3 U) (ixR_of 0) (skey_of hs)
  have h4 : Maps.has D (slit s) = false := by
    rw [h1, List.any_map]
    rw [List.any_map] at e
    exact e
  rw [Maps.atKey_of_not_has h4] at hv
  rw [hr, ixR_inv hv, h4]
theorem it_info : (Try.prog.info? 130).map (fun i => (i.zero, i.size, i.bytes)) = some (some (.agg #[.string ⟨#[]⟩, .int .i64 0, .bool false, .int .i64 0, .int .i64 0, .bool false]), 6, 56) := by kernel_rfl
theorem sh_info : (Try.prog.info? 87).map (fun i => (i.zero, i.size, i.bytes)) = some (some (.agg #[.string ⟨#[]⟩, .slice none 0 0]), 2, 40) := by kernel_rfl
theorem own_type {W : World} {base : Nat} {t : TypeId} {sz n q : Nat} {v : Value} {ys : List Value} (h : W.ownsRow base t sz v n ys) (hq : v.ownBlock = some q) : ∃ cs fr, W.heap[q]? = some (.cells cs t fr) := by
  rcases h.2 with ⟨e, _⟩ | ⟨g', cap', cur, e, _, hg, _⟩
  · rw [e] at hq; cases hq
  · rw [e] at hq
    cases hq
    exact ⟨_, _, hg⟩
theorem item_facts {w0 U : World} {B mb g c n k m X : Nat} {R : List Gv} {s : ByteArray} {o p b : Int} {f h : Bool} (T : TabAt w0 B mb R (.slice (some ⟨g, 0, none⟩) n c) U) (hn : R.length = n) (hk : k < R.length) (hm : R[k].l.length = m) (hs : R[k].s = s)
    (hX : U.heap[X]? = some (.cells #[.string s, .int .i64 o, .bool f, .int .i64 p, .int .i64 b, .bool h] 130 (0, 0))) (hXg : X ≠ g) (_hXB : X ≠ B) (hXv : ∀ i (hi : i < R.length), R[i].v.ownBlock ≠ some X) :
    ((U).cell? ⟨B, 0, none⟩ = some (.slice (some ⟨g, 0, none⟩) n c) ∧ (U).cell? ⟨X, 0, none⟩ = some (.string s) ∧ (U).cell? ⟨X, 1, none⟩ = some (.int .i64 o) ∧ (U).cell? ⟨X, 2, none⟩ = some (.bool f) ∧ (U).cell? ⟨X, 3, none⟩ = some (.int .i64 p) ∧ (U).cell? ⟨X, 4, none⟩ = some (.int .i64 b) ∧ (U).cell? ⟨X, 5, none⟩ = some (.bool h)) ∧ U.cell? ⟨g, k * 2 + 1, none⟩ = some R[k].v ∧ (∀ O, (U.alloc O).cell? ⟨B, 0, none⟩ = some (.slice (some ⟨g, 0, none⟩) n c) ∧ (U.alloc O).cell? ⟨X, 0, none⟩ = some (.string s) ∧ (U.alloc O).cell? ⟨X, 1, none⟩ = some (.int .i64 o) ∧ (U.alloc O).cell? ⟨X, 2, none⟩ = some (.bool f) ∧ (U.alloc O).cell? ⟨X, 3, none⟩ = some (.int .i64 p) ∧ (U.alloc O).cell? ⟨X, 4, none⟩ = some (.int .i64 b) ∧ (U.alloc O).cell? ⟨X, 5, none⟩ = some (.bool h)) ∧ (∀ O, (U.alloc O).cell? ⟨g, k * 2 + 1, none⟩ = some R[k].v) ∧ (∀ O, (U.alloc O).ownsRow w0.heap.size 130 6 R[k].v m (itC R[k].l)) ∧ (∀ O, w0.heap.size ≤ (U.alloc O).heap.size) ∧
    ∀ (O : Obj) (u : World) (gg cap : Nat), u.ownsRow w0.heap.size 130 6 (.slice (some ⟨gg, 0, none⟩) (m + 1) cap) (m + 1) (itC R[k].l ++ riC ⟨s, o, f, p, b, h⟩) → (U.alloc O).grownBy u R[k].v.ownBlock → (R[k].v.ownBlock = some gg ∨ gg = U.heap.size + 1) →
      ((u).cell? ⟨B, 0, none⟩ = some (.slice (some ⟨g, 0, none⟩) n c) ∧ (u).cell? ⟨X, 0, none⟩ = some (.string s) ∧ (u).cell? ⟨X, 1, none⟩ = some (.int .i64 o) ∧ (u).cell? ⟨X, 2, none⟩ = some (.bool f) ∧ (u).cell? ⟨X, 3, none⟩ = some (.int .i64 p) ∧ (u).cell? ⟨X, 4, none⟩ = some (.int .i64 b) ∧ (u).cell? ⟨X, 5, none⟩ = some (.bool h)) ∧ u.cell? ⟨g, k * 2 + 1, none⟩ = some R[k].v ∧ u.frozen? ⟨g, k * 2 + 1, none⟩ = false ∧ (((u.setCell ⟨g, k * 2 + 1, none⟩ (.slice (some ⟨gg, 0, none⟩) (m + 1) cap))).cell? ⟨B, 0, none⟩ = some (.slice (some ⟨g, 0, none⟩) n c) ∧ ((u.setCell ⟨g, k * 2 + 1, none⟩ (.slice (some ⟨gg, 0, none⟩) (m + 1) cap))).cell? ⟨X, 0, none⟩ = some (.string s) ∧ ((u.setCell ⟨g, k * 2 + 1, none⟩ (.slice (some ⟨gg, 0, none⟩) (m + 1) cap))).cell? ⟨X, 1, none⟩ = some (.int .i64 o) ∧ ((u.setCell ⟨g, k * 2 + 1, none⟩ (.slice (some ⟨gg, 0, none⟩) (m + 1) cap))).cell? ⟨X, 2, none⟩ = some (.bool f) ∧ ((u.setCell ⟨g, k * 2 + 1, none⟩ (.slice (some ⟨gg, 0, none⟩) (m + 1) cap))).cell? ⟨X, 3, none⟩ = some (.int .i64 p) ∧ ((u.setCell ⟨g, k * 2 + 1, none⟩ (.slice (some ⟨gg, 0, none⟩) (m + 1) cap))).cell? ⟨X, 4, none⟩ = some (.int .i64 b) ∧ ((u.setCell ⟨g, k * 2 + 1, none⟩ (.slice (some ⟨gg, 0, none⟩) (m + 1) cap))).cell? ⟨X, 5, none⟩ = some (.bool h)) ∧ TabAt w0 B mb (R.set k ⟨R[k].s, R[k].l ++ [⟨s, o, f, p, b, h⟩], (.slice (some ⟨gg, 0, none⟩) (m + 1) cap)⟩) (.slice (some ⟨g, 0, none⟩) n c) (u.setCell ⟨g, k * 2 + 1, none⟩ (.slice (some ⟨gg, 0, none⟩) (m + 1) cap)) ∧ KeepP w0.heap.size mb U (u.setCell ⟨g, k * 2 + 1, none⟩ (.slice (some ⟨gg, 0, none⟩) (m + 1) cap)) ∧ (R.set k ⟨R[k].s, R[k].l ++ [⟨s, o, f, p, b, h⟩], (.slice (some ⟨gg, 0, none⟩) (m + 1) cap)⟩).map gOf = putG (R.map gOf) ⟨s, o, f, p, b, h⟩ := by
  subst hn hm
  have hB : B < U.heap.size := (Array.getElem?_eq_some_iff.1 T.cell).1
  have hXl : X < U.heap.size := (Array.getElem?_eq_some_iff.1 hX).1
  obtain ⟨D, hD, hix⟩ := T.map
  have hmb : mb < U.heap.size := hD.lt
  have hgl : g < U.heap.size := (T.rows.own.lt g rfl).2
  have hg0 : w0.heap.size ≤ g := (T.rows.own.lt g rfl).1
  have hgB : g ≠ B := fun e => T.rows.vB.1 (by rw [← e]; rfl)
  have hgm : g ≠ mb := fun e => T.rows.vB.2 (by rw [← e]; rfl)
  obtain ⟨f1, f2, f3⟩ := T.rows.far k hk
  have key : ∀ W : World, W.heap[B]? = U.heap[B]? → W.heap[X]? = U.heap[X]? → (W).cell? ⟨B, 0, none⟩ = some (.slice (some ⟨g, 0, none⟩) R.length c) ∧ (W).cell? ⟨X, 0, none⟩ = some (.string s) ∧ (W).cell? ⟨X, 1, none⟩ = some (.int .i64 o) ∧ (W).cell? ⟨X, 2, none⟩ = some (.bool f) ∧ (W).cell? ⟨X, 3, none⟩ = some (.int .i64 p) ∧ (W).cell? ⟨X, 4, none⟩ = some (.int .i64 b) ∧ (W).cell? ⟨X, 5, none⟩ = some (.bool h) := fun W hb hx => by
    have a := hb.trans T.cell
    have b := hx.trans hX
    exact ⟨Lib.cell_of_heap a 0, Lib.cell_of_heap b 0, Lib.cell_of_heap b 1, Lib.cell_of_heap b 2, Lib.cell_of_heap b 3, Lib.cell_of_heap b 4, Lib.cell_of_heap b 5⟩
  have cel : ∀ W : World, W.heap[g]? = U.heap[g]? → W.cell? ⟨g, k * 2 + 1, none⟩ = some R[k].v := fun W hb => by
    have ho := ownsRow_atv T.rows.own (W' := W) (fun q hq => by simp only [Value.ownBlock, Option.some.injEq] at hq; rw [← hq]; exact hb)
    rw [ho.cellAt _ (by omega), show rwC R = (R.map shC).flatten from rfl, flat_at shC 2 (fun _ => rfl) R k hk 1 (by omega)]
    rfl
  have old : ∀ (O : Obj) q, q < U.heap.size → (U.alloc O).heap[q]? = U.heap[q]? := fun O q hq => Lib.alloc_old _ _ _ hq
  refine ⟨key U rfl rfl, cel U rfl, fun O => key _ (old O B hB) (old O X hXl), fun O => cel _ (old O g hgl), fun O => ownsRow_atv (T.rows.its k hk) (fun q hq => old O q ((T.rows.its k hk).lt q hq).2), fun O => by have := T.low.size; simp; omega, fun O u gg cap hown hgrow hat => ?_⟩
  have hU := hgrow.size
  simp at hU
  have lowu : ∀ q, q < U.heap.size → R[k].v.ownBlock ≠ some q → u.heap[q]? = U.heap[q]? := fun q q1 q2 => (hgrow.block q (by simp; omega) (fun e => q2 e.symm)).trans (old O q q1)
  have lows : ∀ q, q < U.heap.size → R[k].v.ownBlock ≠ some q → q ≠ g → (u.setCell ⟨g, k * 2 + 1, none⟩ (.slice (some ⟨gg, 0, none⟩) (R[k].l.length + 1) cap)).heap[q]? = U.heap[q]? := fun q q1 q2 q3 => (Below.heap_setCell _ _ _ _ (by show q ≠ g; exact q3)).trans (lowu q q1 q2)
  have hkg : R[k].v.ownBlock ≠ some g := fun e => f3 g e rfl
  have hug := lowu g hgl hkg
  have hog := ownsRow_atv T.rows.own (W' := u) (fun q hq => by simp only [Value.ownBlock, Option.some.injEq] at hq; rw [← hq]; exact hug)
  have hgrow' : U.grownBy u R[k].v.ownBlock := (World.grownBy_alloc U O _).trans hgrow
  have hrow := T.rows.item (W1 := u) (x := ⟨s, o, f, p, b, h⟩) (p := gg) (cp := cap) hB hmb hk hgrow' hown (by exact hat.elim (fun e => .inl e) (fun e => .inr (by omega)))
  have hset := (hog.stored (k * 2 + 1) (.slice (some ⟨gg, 0, none⟩) (R[k].l.length + 1) cap)).2
  have hnm : ((R.set k ⟨R[k].s, R[k].l ++ [⟨s, o, f, p, b, h⟩], (.slice (some ⟨gg, 0, none⟩) (R[k].l.length + 1) cap)⟩)).map (·.s) = R.map (·.s) := by
    rw [List.map_set]
    apply List.ext_getElem (by simp)
    intro i h1 h2
    rw [List.getElem_set]
    split
    · rename_i e; subst e; simp
    · rfl
  refine ⟨key u (lowu B hB f1) (lowu X hXl (hXv k hk)), cel u hug, hog.frozenAt _, key _ (lows B hB f1 (fun e => hgB e.symm)) (lows X hXl (hXv k hk) hXg), ?_, ?_, ?_⟩
  · refine ⟨(lows B hB f1 (fun e => hgB e.symm)).trans T.cell, hrow, ⟨D, ?_, by rw [hnm]; exact hix⟩, ?_, T.hB, T.hmb, T.ne, by rw [hnm]; exact T.nod⟩
    · rw [List.length_set]
      obtain ⟨es, cl, hb', rest⟩ := hD
      exact ⟨es, cl, (lows mb hmb f2 (fun e => hgm e.symm)).trans hb', rest⟩
    · exact (T.low.trans (below_grown hgrow' T.low.size (fun q hq => ((T.rows.its k hk).lt q hq).1))).trans (below_grown hset (by have := T.low.size; omega) (fun q hq => by cases hq; exact hg0))
  · refine KeepP.trans (KeepP.cells hgrow' T.low.size (fun q hq => by
        obtain ⟨cs2, fr2, e2⟩ := own_type (T.rows.its k hk) hq
        exact ⟨((T.rows.its k hk).lt q hq).1, cs2, _, fr2, e2, by decide⟩)) (KeepP.cells hset (by have := T.low.size; omega) (fun q hq => by
        cases hq
        obtain ⟨cs2, fr2, e2⟩ := own_type hog (q := g) rfl
        exact ⟨hg0, cs2, _, fr2, e2, by decide⟩))
  · have hkk : k < (R.map gOf).length := by simpa using hk
    have hnn : ((R.map gOf).map (·.s)).Nodup := by
      have h := T.nod
      rwa [List.map_map]
    have hpg := putG_old (G := R.map gOf) (x := ⟨s, o, f, p, b, h⟩) hnn hkk (by rw [List.getElem_map]; exact hs)
    rw [hpg, List.map_set, List.getElem_map]
    show _ = (R.map gOf).set k ⟨s, R[k].l ++ [⟨s, o, f, p, b, h⟩]⟩
    rw [← hs]
    rfl
theorem more_facts {w0 U : World} {B mb c n X : Nat} {A : Option Addr} {R : List Gv} {s : ByteArray} {o p b : Int} {f h : Bool} {D : DataW Unit} (T : TabAt w0 B mb R (.slice A n c) U) (hn : R.length = n) (hs : s ∉ R.map (·.s)) (hD : U.ownsMap Try.prog 9 ixR mb n D) (hix : IxAt (R.map (·.s)) D)
    (hX : U.heap[X]? = some (.cells #[.string s, .int .i64 o, .bool f, .int .i64 p, .int .i64 b, .bool h] 130 (0, 0))) (hXB : X ≠ B) (hXm : X ≠ mb) (hXA : (Value.slice A n c).ownBlock ≠ some X) :
    ((U).cell? ⟨B, 1, none⟩ = some (.map (some mb)) ∧ (U).cell? ⟨X, 0, none⟩ = some (.string s)) ∧ ∀ w3 : World, w3.ownsMap Try.prog 9 ixR mb (n + 1) (D.put (slit s) (.lit (.int .i64 (n : Int)))) → U.grownBy w3 (some mb) →
      ((w3).cell? ⟨B, 1, none⟩ = some (.map (some mb)) ∧ (w3).cell? ⟨X, 0, none⟩ = some (.string s)) ∧ (w3.drew).cell? ⟨X, 0, none⟩ = some (.string s) ∧ w3.drew.cell? ⟨B, 0, none⟩ = some (.slice A n c) ∧ (∀ O, (w3.drew.alloc O).cell? ⟨X, 0, none⟩ = some (.string s)) ∧ (∀ O, (w3.drew.alloc O).cell? ⟨B, 0, none⟩ = some (.slice A n c)) ∧ (∀ O, (w3.drew.alloc O).ownsRow w0.heap.size 87 2 (.slice A n c) n (rwC R)) ∧ (∀ O, w0.heap.size ≤ (w3.drew.alloc O).heap.size) ∧
      ∀ (O : Obj) (u : World) (gg cap : Nat), u.ownsRow w0.heap.size 87 2 (.slice (some ⟨gg, 0, none⟩) (n + 1) cap) (n + 1) (rwC R ++ [.string s, .slice none 0 0]) → (w3.drew.alloc O).grownBy u (Value.slice A n c).ownBlock → ((Value.slice A n c).ownBlock = some gg ∨ gg = w3.drew.heap.size + 1) →
        (u).cell? ⟨X, 0, none⟩ = some (.string s) ∧ u.cell? ⟨B, 0, none⟩ = some (.slice A n c) ∧ u.frozen? ⟨B, 0, none⟩ = false ∧ ((u.setCell ⟨B, 0, none⟩ (.slice (some ⟨gg, 0, none⟩) (n + 1) cap))).cell? ⟨X, 0, none⟩ = some (.string s) ∧ TabAt w0 B mb (R ++ [(⟨s, [], .slice none 0 0⟩ : Gv)]) (.slice (some ⟨gg, 0, none⟩) (n + 1) cap) (u.setCell ⟨B, 0, none⟩ (.slice (some ⟨gg, 0, none⟩) (n + 1) cap)) ∧ KeepP w0.heap.size mb U (u.setCell ⟨B, 0, none⟩ (.slice (some ⟨gg, 0, none⟩) (n + 1) cap)) ∧ (u.setCell ⟨B, 0, none⟩ (.slice (some ⟨gg, 0, none⟩) (n + 1) cap)).heap[X]? = some (.cells #[.string s, .int .i64 o, .bool f, .int .i64 p, .int .i64 b, .bool h] 130 (0, 0)) ∧ X ≠ gg := by
  subst hn
  have hB : B < U.heap.size := (Array.getElem?_eq_some_iff.1 T.cell).1
  have hXl : X < U.heap.size := (Array.getElem?_eq_some_iff.1 hX).1
  have hmb : mb < U.heap.size := hD.lt
  refine ⟨⟨Lib.cell_of_heap T.cell 1, Lib.cell_of_heap hX 0⟩, fun w3 hm3 hg3 => ?_⟩
  have low3 : ∀ q, q < U.heap.size → q ≠ mb → w3.heap[q]? = U.heap[q]? := fun q q1 q2 => hg3.block q q1 (fun e => q2 (Option.some.inj e))
  have hz3 := hg3.size
  have hB3 := (low3 B hB T.ne).trans T.cell
  have hX3 := (low3 X hXl hXm).trans hX
  have r3 : RowsAt w0.heap.size B mb R (.slice A R.length c) w3.drew := T.rows.keep (fun q _ q1 _ q2 => low3 q q1 q2)
  have old : ∀ (O : Obj) q, q < U.heap.size → (w3.drew.alloc O).heap[q]? = w3.heap[q]? := fun O q hq => Lib.alloc_old _ _ _ (by show q < w3.heap.size; omega)
  refine ⟨⟨Lib.cell_of_heap hB3 1, Lib.cell_of_heap hX3 0⟩, Lib.cell_of_heap (show w3.drew.heap[X]? = _ from hX3) 0, Lib.cell_of_heap (show w3.drew.heap[B]? = _ from hB3) 0, fun O => Lib.cell_of_heap ((old O X hXl).trans hX3) 0, fun O => Lib.cell_of_heap ((old O B hB).trans hB3) 0, fun O => r3.own.alloc _, fun O => ?_, fun O u gg cap hown hgrow hat => ?_⟩
  · have := T.low.size
    have : (w3.drew.alloc O).heap.size = w3.heap.size + 1 := World.size_alloc _ _
    omega
  have hzu := hgrow.size
  have hza : (w3.drew.alloc O).heap.size = w3.heap.size + 1 := World.size_alloc _ _
  rw [hza] at hzu
  have hzd : w3.drew.heap.size = w3.heap.size := rfl
  rw [hzd] at hat
  have hvb := T.rows.vB
  have lowu : ∀ q, q < U.heap.size → q ≠ mb → (Value.slice A R.length c).ownBlock ≠ some q → u.heap[q]? = U.heap[q]? := fun q q1 q2 q3 => (hgrow.block q (by rw [hza]; omega) (fun e => q3 e.symm)).trans ((old O q q1).trans (low3 q q1 q2))
  have lows : ∀ q, q < U.heap.size → q ≠ mb → (Value.slice A R.length c).ownBlock ≠ some q → q ≠ B → (u.setCell ⟨B, 0, none⟩ (.slice (some ⟨gg, 0, none⟩) (R.length + 1) cap)).heap[q]? = U.heap[q]? := fun q q1 q2 q3 q4 => (Below.heap_setCell _ _ _ _ (by show q ≠ B; exact q4)).trans (lowu q q1 q2 q3)
  have hBu := (lowu B hB T.ne hvb.1).trans T.cell
  have hgrow' : w3.drew.grownBy u (Value.slice A R.length c).ownBlock := (World.grownBy_alloc _ O _).trans hgrow
  have hgrow3 : w3.grownBy u (Value.slice A R.length c).ownBlock := ⟨hgrow'.os, hgrow'.tape, hgrow'.output, hgrow'.size, hgrow'.block⟩
  have hmore := r3.more (W' := u) (g := gg) (cap := cap) (s := s) (by show B < w3.heap.size; omega) (by show mb < w3.heap.size; omega) hgrow' hown (by exact hat.elim (fun e => .inl e) (fun e => .inr (by rw [hzd]; omega)))
  have hset : u.grownBy (u.setCell ⟨B, 0, none⟩ (.slice (some ⟨gg, 0, none⟩) (R.length + 1) cap)) (some B) := grownBy_setCell' u B _
  have hXgg : X ≠ gg := by
    rcases hat with e | e
    · exact fun e2 => hXA (by rw [e, e2])
    · omega
  have hmu : u.heap[mb]? = w3.heap[mb]? := (hgrow.block mb (by rw [hza]; omega) (fun e => hvb.2 e.symm)).trans (old O mb hmb)
  have hU3 : Below w0.heap.size U w3 := below_grown hg3 T.low.size (fun q hq => by cases hq; exact T.hmb)
  have hu3 : Below w0.heap.size w3 u := below_grown hgrow3 (by have := T.low.size; omega) (fun q hq => (r3.own.lt q hq).1)
  have hus : Below w0.heap.size u (u.setCell ⟨B, 0, none⟩ (.slice (some ⟨gg, 0, none⟩) (R.length + 1) cap)) := below_grown hset (by have := T.low.size; omega) (fun q hq => by cases hq; exact T.hB)
  refine ⟨Lib.cell_of_heap ((lowu X hXl hXm hXA).trans hX) 0, Lib.cell_of_heap hBu 0, Lib.frozen_of_heap hBu 0, Lib.cell_of_heap ((lows X hXl hXm hXA hXB).trans hX) 0, ?_, ?_, (lows X hXl hXm hXA hXB).trans hX, hXgg⟩
  · refine ⟨heap_setCell_same u B 0 _ _ _ hBu, hmore.keep (fun q _ _ q2 _ => Below.heap_setCell _ _ _ _ (by show q ≠ B; exact q2)), ⟨D.put (slit s) (.lit (.int .i64 (R.length : Int))), ?_, ?_⟩, ((T.low.trans hU3).trans hu3).trans hus, T.hB, T.hmb, T.ne, ?_⟩
    · rw [List.length_append]
      obtain ⟨es, cl, hb', rest⟩ := hm3
      exact ⟨es, cl, (Below.heap_setCell _ _ _ _ (by show mb ≠ B; exact fun e => T.ne e.symm)).trans (hmu.trans hb'), rest⟩
    · rw [List.map_append]
      have h := ixAt_put hix hD.isMap hs
      rwa [List.length_map] at h
    · rw [List.map_append, List.nodup_append]
      refine ⟨T.nod, by simp, fun a ha b hb => ?_⟩
      rw [List.map_cons, List.map_nil, List.mem_singleton] at hb
      subst hb
      exact fun e => hs (e ▸ ha)
  · refine KeepP.trans (KeepP.trans (KeepP.map hg3 T.low.size T.hmb (fun cs fr e => by
        obtain ⟨es, cl, hb', rest⟩ := hD
        rw [hb'] at e
        simp at e)) (KeepP.cells hgrow3 (by have := T.low.size; omega) (fun q hq => by
        obtain ⟨cs2, fr2, e2⟩ := own_type r3.own hq
        exact ⟨(r3.own.lt q hq).1, cs2, _, fr2, e2, by decide⟩))) (KeepP.cells hset (by have := T.low.size; omega) (fun q hq => by
        cases hq
        exact ⟨T.hB, _, _, _, hBu, by decide⟩))

set_option maxRecDepth 100000 in
set_option maxHeartbeats 16000000 in
theorem put_any (w0 W : World) (B mb : Nat) (R : List Gv) (v : Value) (x : Ri) (T : TabAt w0 B mb R v W) (hx : x.s.size < 9223372036854775808) (hR : (R.length + 1) * 40 ≤ 140737488355328) (hI : ∀ i (hi : i < R.length), (R[i].l.length + 1) * 56 ≤ 140737488355328) :
    Calls Try.prog 70 #[.pointer (some ⟨B, 0, none⟩), riV x] W fun e w' => (∃ u, e = .returned u) ∧ ∃ R' v', TabAt w0 B mb R' v' w' ∧ R'.map gOf = putG (R.map gOf) x ∧ KeepP w0.heap.size mb W w' := by
  obtain ⟨s, o, f, p, b, h⟩ := x
  dsimp only at hx
  obtain ⟨A, c, hv⟩ := ownsRow_slice T.rows.own
  obtain ⟨n, hn⟩ : ∃ n, R.length = n := ⟨_, rfl⟩
  rw [hn] at hv hR
  subst hv
  obtain ⟨X, hX⟩ : ∃ X, W.heap.size = X := ⟨_, rfl⟩
  have hXB : X ≠ B := by have := (Array.getElem?_eq_some_iff.1 T.cell).1; omega
  have hXv : ∀ i (hi : i < R.length), R[i].v.ownBlock ≠ some X := fun i hi e => by have := ((T.rows.its i hi).lt X e).2; omega
  have hXA : (Value.slice A n c).ownBlock ≠ some X := fun e => by have := (T.rows.own.lt X e).2; omega
  have hXm : X ≠ mb := by obtain ⟨D, hD, -⟩ := T.map; have := hD.lt; omega
  unfold riV
  dsimp only
  cases hq : (R.map gOf).any (fun g => g.s == s) with
  | true =>
    obtain ⟨k, hk0, e⟩ := any_at hq
    have hk : k < R.length := by simpa using hk0
    have he : R[k].s = s := by rw [List.getElem_map] at e; exact e
    obtain ⟨g, cap0, ev, -, hgl⟩ := T.rows.own.form (by omega)
    have ev1 := (Value.slice.inj ev).1
    have ev3 := (Value.slice.inj ev).2.2
    subst ev1
    subst ev3
    clear ev
    have hXg : X ≠ g := fun e => hXA (by rw [e]; rfl)
    obtain ⟨m, hm⟩ : ∃ m, R[k].l.length = m := ⟨_, rfl⟩
    obtain ⟨Ak, ck, hvk, -, -⟩ := ris_of (T.rows.its k hk)
    rw [hm] at hvk
    have HML := Lib.hid (show m + 1 ≤ maxLen ∧ (m + 1) * 56 ≤ 140737488355328 by have := hI k hk; rw [hm] at this; unfold maxLen; omega)
    obtain ⟨W1, hW1⟩ : ∃ W1, W1 = W.alloc (.cells #[.string s, .int .i64 o, .bool f, .int .i64 p, .int .i64 b, .bool h] 130) := ⟨_, rfl⟩
    have HB1 : Below W.heap.size W W1 := hW1 ▸ balloc (Below.refl _ W) _
    have hX1 : W1.heap[X]? = some (.cells #[.string s, .int .i64 o, .bool f, .int .i64 p, .int .i64 b, .bool h] 130 (0, 0)) := by rw [hW1, ← hX]; exact heap_alloc_new W _
    have hXl : X < W1.heap.size := (Array.getElem?_eq_some_iff.1 hX1).1
    have HT := Lib.hid (fun (U : World) (hU : Below W1.heap.size W1 U) => T.quiet (bthen HB1 hU))
    have HXU := Lib.hid (fun (U : World) (hU : Below W1.heap.size W1 U) => (hU.block X hXl).trans hX1)
    have HKW := Lib.hid (fun (U : World) (hU : Below W1.heap.size W1 U) => KeepP.below (mb := mb) T.low.size (bthen HB1 hU))
    have b1 : W1.cell? ⟨B, 1, none⟩ = some (.map (some mb)) := Lib.cell_of_heap (HT.out W1 (Below.refl _ _)).cell 1
    have x0 : W1.cell? ⟨X, 0, none⟩ = some (.string s) := Lib.cell_of_heap hX1 0
    have hlk : ∀ n', (Instr.lookup 80 (.map (some mb)) (.string s) true).run Try.prog (W1.drewN n') = .ok (.tuple #[.int .i64 (k : Int), .bool true]) (W1.drewN n') := fun n' => (HT.out _ (drewN_below' W1 n')).look_is hk he hx
    clear hq hk0 e hI hR
    go_enter Try.func70, Try.ntmps70
    go_upto_region 1 with fail
    rw [← hW1]
    clear hW1
    go_quiet (fail)
    have hbq := drewN_below' W1 nq
    have T1 := HT.out _ hbq
    have x1 := HXU.out _ hbq
    have k1 := HKW.out _ hbq
    clear hlk b1 x0 hX1 HT HXU HKW hbq HB1 hXl
    generalize W1.drewN nq = U1 at *
    go_upto_region 6 with fail
    have F6 := item_facts (U := U1.drew) (X := X) (R := R) (s := s) (o := o) (p := p) (b := b) (f := f) (h := h) (k := k) (m := m) (g := g) (n := n) (c := c) (T1.quiet (Below.refl _ U1).drew) hn hk hm he x1 hXg hXB hXv
    rw [hvk] at F6
    obtain ⟨hd, e12, FSA, FCA, FOW, FBS, FIN⟩ := F6
    have HFN := Lib.hid (fun (O : Obj) (u : World) (gg cap : Nat) h1 h2 h3 => (show ((u).cell? ⟨B, 0, none⟩ = some (.slice (some ⟨g, 0, none⟩) n c) ∧ (u).cell? ⟨X, 0, none⟩ = some (.string s) ∧ (u).cell? ⟨X, 1, none⟩ = some (.int .i64 o) ∧ (u).cell? ⟨X, 2, none⟩ = some (.bool f) ∧ (u).cell? ⟨X, 3, none⟩ = some (.int .i64 p) ∧ (u).cell? ⟨X, 4, none⟩ = some (.int .i64 b) ∧ (u).cell? ⟨X, 5, none⟩ = some (.bool h)) ∧ u.cell? ⟨g, k * 2 + 1, none⟩ = some (.slice Ak m ck) ∧ u.frozen? ⟨g, k * 2 + 1, none⟩ = false ∧ (((u.setCell ⟨g, k * 2 + 1, none⟩ (.slice (some ⟨gg, 0, none⟩) (m + 1) cap))).cell? ⟨B, 0, none⟩ = some (.slice (some ⟨g, 0, none⟩) n c) ∧ ((u.setCell ⟨g, k * 2 + 1, none⟩ (.slice (some ⟨gg, 0, none⟩) (m + 1) cap))).cell? ⟨X, 0, none⟩ = some (.string s) ∧ ((u.setCell ⟨g, k * 2 + 1, none⟩ (.slice (some ⟨gg, 0, none⟩) (m + 1) cap))).cell? ⟨X, 1, none⟩ = some (.int .i64 o) ∧ ((u.setCell ⟨g, k * 2 + 1, none⟩ (.slice (some ⟨gg, 0, none⟩) (m + 1) cap))).cell? ⟨X, 2, none⟩ = some (.bool f) ∧ ((u.setCell ⟨g, k * 2 + 1, none⟩ (.slice (some ⟨gg, 0, none⟩) (m + 1) cap))).cell? ⟨X, 3, none⟩ = some (.int .i64 p) ∧ ((u.setCell ⟨g, k * 2 + 1, none⟩ (.slice (some ⟨gg, 0, none⟩) (m + 1) cap))).cell? ⟨X, 4, none⟩ = some (.int .i64 b) ∧ ((u.setCell ⟨g, k * 2 + 1, none⟩ (.slice (some ⟨gg, 0, none⟩) (m + 1) cap))).cell? ⟨X, 5, none⟩ = some (.bool h)) ∧ ∃ R' v', TabAt w0 B mb R' v' (u.setCell ⟨g, k * 2 + 1, none⟩ (.slice (some ⟨gg, 0, none⟩) (m + 1) cap)) ∧ R'.map gOf = putG (R.map gOf) ⟨s, o, f, p, b, h⟩ ∧ KeepP w0.heap.size mb W (u.setCell ⟨g, k * 2 + 1, none⟩ (.slice (some ⟨gg, 0, none⟩) (m + 1) cap)) from by
      obtain ⟨a1, a2, a3, a4, a5, a6, a7⟩ := FIN O u gg cap h1 h2 h3
      exact ⟨a1, a2, a3, a4, _, _, a5, a7, k1.trans ((KeepP.below (W := U1) T1.low.size (Below.refl _ U1).drew).trans a6)⟩))
    obtain ⟨i6, hi6, hz6, hs6, hb6⟩ := info_parts it_info
    have H6 := Lib.hid (And.intro hi6 (And.intro hz6 (And.intro hs6 hb6)))
    have j0 : (0 : Int) ≤ ((k : Nat) : Int) := Int.natCast_nonneg _
    have j1 : ((k : Nat) : Int) < ((n : Nat) : Int) := by omega
    have j2 : ((k : Nat) : Int) < ((k : Nat) : Int) + 1 := by omega
    clear FIN hi6 hz6 hs6 hb6
    refine wp_region_held_drew (S := (fun U => (U).cell? ⟨B, 0, none⟩ = some (.slice (some ⟨g, 0, none⟩) n c) ∧ (U).cell? ⟨X, 0, none⟩ = some (.string s) ∧ (U).cell? ⟨X, 1, none⟩ = some (.int .i64 o) ∧ (U).cell? ⟨X, 2, none⟩ = some (.bool f) ∧ (U).cell? ⟨X, 3, none⟩ = some (.int .i64 p) ∧ (U).cell? ⟨X, 4, none⟩ = some (.int .i64 b) ∧ (U).cell? ⟨X, 5, none⟩ = some (.bool h))) (by kernel_rfl) hd (fun hHeld => ?_)
    generalize U1.drew = Z6 at *
    refine wpAnyH_take (i := 0) (v := ?_) rfl (by kernel_rfl) (by kernel_rfl) (by kernel_rfl) (fun _ _ _ h => h) (Or.inl ⟨by rfl, ?_⟩) hHeld ?_
    rotate_left
    · intro W' hSw; (try dsimp only at hSw); go_simp; try (with_reducible rfl)
    (try simp only [Act.put, List.getElem_toArray, List.getElem_cons_zero, List.setIfInBounds_toArray, List.set_cons_zero, List.set_cons_succ])
    refine wpAnyH_take (i := 1) (v := ?_) rfl (by kernel_rfl) (by kernel_rfl) (by kernel_rfl) (fun _ _ _ h => h) (Or.inl ⟨by rfl, ?_⟩) hHeld ?_
    rotate_left
    · intro W' hSw; (try dsimp only at hSw); go_simp; try (with_reducible rfl)
    (try simp only [Act.put, List.getElem_toArray, List.getElem_cons_zero, List.getElem_cons_succ, List.setIfInBounds_toArray, List.set_cons_zero, List.set_cons_succ])
    refine wpAnyH_take (i := 2) (v := ?_) rfl (by kernel_rfl) (by kernel_rfl) (by kernel_rfl) (fun _ _ _ h => h) (Or.inl ⟨by rfl, ?_⟩) hHeld ?_
    rotate_left
    · intro W' hSw; (try dsimp only at hSw); go_simp; try (with_reducible rfl)
    (try simp only [Act.put, List.getElem_toArray, List.getElem_cons_zero, List.getElem_cons_succ, List.setIfInBounds_toArray, List.set_cons_zero, List.set_cons_succ])
    refine wpAnyH_take (i := 3) (v := ?_) rfl (by kernel_rfl) (by kernel_rfl) (by kernel_rfl) (fun _ _ _ h => h) (Or.inl ⟨by rfl, ?_⟩) hHeld ?_
    rotate_left
    · intro W' hSw; (try dsimp only at hSw); go_simp; try (with_reducible rfl)
    (try simp only [Act.put, List.getElem_toArray, List.getElem_cons_zero, List.getElem_cons_succ, List.setIfInBounds_toArray, List.set_cons_zero, List.set_cons_succ])
    refine wpAnyH_take (i := 4) (v := ?_) rfl (by kernel_rfl) (by kernel_rfl) (by kernel_rfl) (fun _ _ _ h => h) (Or.inl ⟨by rfl, ?_⟩) hHeld ?_
    rotate_left
    · intro W' hSw; (try dsimp only at hSw); go_simp; try (with_reducible rfl)
    (try simp only [Act.put, List.getElem_toArray, List.getElem_cons_zero, List.getElem_cons_succ, List.setIfInBounds_toArray, List.set_cons_zero, List.set_cons_succ])
    refine wpAnyH_take (i := 5) (v := ?_) rfl (by kernel_rfl) (by kernel_rfl) (by kernel_rfl) (fun _ _ _ h => h) (Or.inl ⟨by rfl, ?_⟩) hHeld ?_
    rotate_left
    · intro W' hSw; (try dsimp only at hSw); go_simp; try (with_reducible rfl)
    (try simp only [Act.put, List.getElem_toArray, List.getElem_cons_zero, List.getElem_cons_succ, List.setIfInBounds_toArray, List.set_cons_zero, List.set_cons_succ])
    refine wpAnyH_take (i := 6) (v := ?_) rfl (by kernel_rfl) (by kernel_rfl) (by kernel_rfl) (fun _ _ _ h => h) (Or.inl ⟨by rfl, ?_⟩) hHeld ?_
    rotate_left
    · intro W' hSw; (try dsimp only at hSw); go_simp; try (with_reducible rfl)
    (try simp only [Act.put, List.getElem_toArray, List.getElem_cons_zero, List.getElem_cons_succ, List.setIfInBounds_toArray, List.set_cons_zero, List.set_cons_succ])
    refine wpAnyH_take (i := 7) (v := ?_) rfl (by kernel_rfl) (by kernel_rfl) (by kernel_rfl) (fun _ _ _ h => h) (Or.inl ⟨by rfl, ?_⟩) hHeld ?_
    rotate_left
    · intro W' hSw; (try dsimp only at hSw); go_simp; try (with_reducible rfl)
    (try simp only [Act.put, List.getElem_toArray, List.getElem_cons_zero, List.getElem_cons_succ, List.setIfInBounds_toArray, List.set_cons_zero, List.set_cons_succ])
    refine wpAnyH_take (i := 8) (v := ?_) rfl (by kernel_rfl) (by kernel_rfl) (by kernel_rfl) (fun _ _ _ h => h) (Or.inl ⟨by rfl, ?_⟩) hHeld ?_
    rotate_left
    · intro W' hSw; (try dsimp only at hSw); go_simp; try (with_reducible rfl)
    (try simp only [Act.put, List.getElem_toArray, List.getElem_cons_zero, List.getElem_cons_succ, List.setIfInBounds_toArray, List.set_cons_zero, List.set_cons_succ])
    refine wpAnyH_take (i := 9) (v := ?_) rfl (by kernel_rfl) (by kernel_rfl) (by kernel_rfl) (fun _ _ _ h => h) (Or.inl ⟨by rfl, ?_⟩) hHeld ?_
    rotate_left
    · intro W' hSw; (try dsimp only at hSw); go_simp; try (with_reducible rfl)
    (try simp only [Act.put, List.getElem_toArray, List.getElem_cons_zero, List.getElem_cons_succ, List.setIfInBounds_toArray, List.set_cons_zero, List.set_cons_succ])
    refine wpAnyH_take (i := 10) (v := ?_) rfl (by kernel_rfl) (by kernel_rfl) (by kernel_rfl) (fun _ _ _ h => h) (Or.inl ⟨by rfl, ?_⟩) hHeld ?_
    rotate_left
    · intro W' hSw; (try dsimp only at hSw); go_simp; try (with_reducible rfl)
    (try simp only [Act.put, List.getElem_toArray, List.getElem_cons_zero, List.getElem_cons_succ, List.setIfInBounds_toArray, List.set_cons_zero, List.set_cons_succ])
    refine wpAnyH_take (i := 11) (v := ?_) rfl (by kernel_rfl) (by kernel_rfl) (by kernel_rfl) (fun _ _ _ h => h) (Or.inl ⟨by rfl, ?_⟩) hHeld ?_
    rotate_left
    · intro W' hSw; (try dsimp only at hSw); go_simp; try (with_reducible rfl)
    (try simp only [Act.put, List.getElem_toArray, List.getElem_cons_zero, List.getElem_cons_succ, List.setIfInBounds_toArray, List.set_cons_zero, List.set_cons_succ])
    refine wpAnyH_take (i := 13) (v := ?_) rfl (by kernel_rfl) (by kernel_rfl) (by kernel_rfl) (fun _ _ _ h => h) (Or.inl ⟨by rfl, ?_⟩) hHeld ?_
    rotate_left
    · intro W' hSw; (try dsimp only at hSw); go_simp; try (with_reducible rfl)
    (try simp only [Act.put, List.getElem_toArray, List.getElem_cons_zero, List.getElem_cons_succ, List.setIfInBounds_toArray, List.set_cons_zero, List.set_cons_succ])
    refine wpAnyH_ready (rs := [12, 14]) (by kernel_rfl) (by simp) ?_
    refine AllReadyH.cons rfl (fun K hK => ?_) (AllReadyH.cons rfl (fun K hK => ?_) AllReadyH.nil)
    · go_simp
      refine hK.out _ _ hd (fun hHeld => ?_)
      clear hK
      (try simp only [Act.put, List.getElem_toArray, List.getElem_cons_zero, List.getElem_cons_succ, List.setIfInBounds_toArray, List.set_cons_zero, List.set_cons_succ])
      refine wpAnyH_ready (rs := [14]) (by kernel_rfl) (by simp) ?_
      refine AllReadyH.cons rfl (fun K hK => ?_) AllReadyH.nil
      go_simp
      refine hK.out _ _ (FSA (.cells #[.string s, .int .i64 o, .bool f, .int .i64 p, .int .i64 b, .bool h] 130)) (fun hHeld => ?_)
      clear hK
      (try simp only [Act.put, List.getElem_toArray, List.getElem_cons_zero, List.getElem_cons_succ, List.setIfInBounds_toArray, List.set_cons_zero, List.set_cons_succ])
      refine wpAnyH_ready (rs := [15]) (by kernel_rfl) (by simp) ?_
      refine AllReadyH.cons rfl (fun K hK => ?_) AllReadyH.nil
      refine step_append_lies _ rfl _ _ 85 rfl w0.heap.size 130 i6 _ 6 56 Try.underlying85 H6.out.1 H6.out.2.1 H6.out.2.2.1 H6.out.2.2.2 rfl (by decide) (.slice Ak m ck) m (itC R[k].l) (by rfl) (FOW _) ⟨Z6.heap.size, 0, none⟩ 1 1 [.string s, .int .i64 o, .bool f, .int .i64 p, .int .i64 b, .bool h] (by rfl) (by rfl) (World.news_of_block (cs := #[.string s, .int .i64 o, .bool f, .int .i64 p, .int .i64 b, .bool h]) (heap_alloc_new Z6 _)) (by simp [Value.oneCell']) (by decide) HML.out.1 HML.out.2 (FBS _) (Z6.heap.size + 1) (by simp) ?_
      intro gg cap u3 hown hgrow hat hlt
      obtain ⟨hd3, e3, f3, hd4, HPT⟩ := HFN.out _ u3 gg cap hown hgrow hat
      refine hK.out _ _ hd3 (fun hHeld => ?_)
      clear hK
      (try simp only [Act.put, List.getElem_toArray, List.getElem_cons_zero, List.getElem_cons_succ, List.setIfInBounds_toArray, List.set_cons_zero, List.set_cons_succ])
      refine wpAnyH_take (i := 16) (v := ?_) rfl (by kernel_rfl) (by kernel_rfl) (by kernel_rfl) (fun _ _ _ h => h) (Or.inl ⟨by rfl, ?_⟩) hHeld ?_
      rotate_left
      · intro W' hSw; (try dsimp only at hSw); go_simp; try (with_reducible rfl)
      (try simp only [Act.put, List.getElem_toArray, List.getElem_cons_zero, List.getElem_cons_succ, List.setIfInBounds_toArray, List.set_cons_zero, List.set_cons_succ])
      refine wpAnyH_take (i := 17) (v := ?_) rfl (by kernel_rfl) (by kernel_rfl) (by kernel_rfl) (fun _ _ _ h => h) (Or.inl ⟨by rfl, ?_⟩) hHeld ?_
      rotate_left
      · intro W' hSw; (try dsimp only at hSw); go_simp; try (with_reducible rfl)
      (try simp only [Act.put, List.getElem_toArray, List.getElem_cons_zero, List.getElem_cons_succ, List.setIfInBounds_toArray, List.set_cons_zero, List.set_cons_succ])
      refine wpAnyH_ready (rs := [18]) (by kernel_rfl) (by simp) ?_
      refine AllReadyH.cons rfl (fun K hK => ?_) AllReadyH.nil
      go_simp
      refine hK.out _ _ hd4 (fun hHeld => ?_)
      clear hK
      (try simp only [Act.put, List.getElem_toArray, List.getElem_cons_zero, List.getElem_cons_succ, List.setIfInBounds_toArray, List.set_cons_zero, List.set_cons_succ])
      refine wpAnyH_done (by kernel_rfl) ?_ _
      have HPX := Lib.hid HPT
      clear HPT e3 f3 hd3 hd4 hHeld hown hgrow hat hlt
      go_wp2_with fail
      exact bodyPost_end (results_none Try.results70 _ _ _) rfl ⟨⟨_, rfl⟩, HPX.out⟩
    · go_simp
      have e12b := FCA (.cells #[.string s, .int .i64 o, .bool f, .int .i64 p, .int .i64 b, .bool h] 130)
      refine hK.out _ _ (FSA (.cells #[.string s, .int .i64 o, .bool f, .int .i64 p, .int .i64 b, .bool h] 130)) (fun hHeld => ?_)
      clear hK
      (try simp only [Act.put, List.getElem_toArray, List.getElem_cons_zero, List.getElem_cons_succ, List.setIfInBounds_toArray, List.set_cons_zero, List.set_cons_succ])
      refine wpAnyH_ready (rs := [12]) (by kernel_rfl) (by simp) ?_
      refine AllReadyH.cons rfl (fun K hK => ?_) AllReadyH.nil
      go_simp
      refine hK.out _ _ (FSA (.cells #[.string s, .int .i64 o, .bool f, .int .i64 p, .int .i64 b, .bool h] 130)) (fun hHeld => ?_)
      clear hK
      (try simp only [Act.put, List.getElem_toArray, List.getElem_cons_zero, List.getElem_cons_succ, List.setIfInBounds_toArray, List.set_cons_zero, List.set_cons_succ])
      refine wpAnyH_ready (rs := [15]) (by kernel_rfl) (by simp) ?_
      refine AllReadyH.cons rfl (fun K hK => ?_) AllReadyH.nil
      refine step_append_lies _ rfl _ _ 85 rfl w0.heap.size 130 i6 _ 6 56 Try.underlying85 H6.out.1 H6.out.2.1 H6.out.2.2.1 H6.out.2.2.2 rfl (by decide) (.slice Ak m ck) m (itC R[k].l) (by rfl) (FOW _) ⟨Z6.heap.size, 0, none⟩ 1 1 [.string s, .int .i64 o, .bool f, .int .i64 p, .int .i64 b, .bool h] (by rfl) (by rfl) (World.news_of_block (cs := #[.string s, .int .i64 o, .bool f, .int .i64 p, .int .i64 b, .bool h]) (heap_alloc_new Z6 _)) (by simp [Value.oneCell']) (by decide) HML.out.1 HML.out.2 (FBS _) (Z6.heap.size + 1) (by simp) ?_
      intro gg cap u3 hown hgrow hat hlt
      obtain ⟨hd3, e3, f3, hd4, HPT⟩ := HFN.out _ u3 gg cap hown hgrow hat
      refine hK.out _ _ hd3 (fun hHeld => ?_)
      clear hK
      (try simp only [Act.put, List.getElem_toArray, List.getElem_cons_zero, List.getElem_cons_succ, List.setIfInBounds_toArray, List.set_cons_zero, List.set_cons_succ])
      refine wpAnyH_take (i := 16) (v := ?_) rfl (by kernel_rfl) (by kernel_rfl) (by kernel_rfl) (fun _ _ _ h => h) (Or.inl ⟨by rfl, ?_⟩) hHeld ?_
      rotate_left
      · intro W' hSw; (try dsimp only at hSw); go_simp; try (with_reducible rfl)
      (try simp only [Act.put, List.getElem_toArray, List.getElem_cons_zero, List.getElem_cons_succ, List.setIfInBounds_toArray, List.set_cons_zero, List.set_cons_succ])
      refine wpAnyH_take (i := 17) (v := ?_) rfl (by kernel_rfl) (by kernel_rfl) (by kernel_rfl) (fun _ _ _ h => h) (Or.inl ⟨by rfl, ?_⟩) hHeld ?_
      rotate_left
      · intro W' hSw; (try dsimp only at hSw); go_simp; try (with_reducible rfl)
      (try simp only [Act.put, List.getElem_toArray, List.getElem_cons_zero, List.getElem_cons_succ, List.setIfInBounds_toArray, List.set_cons_zero, List.set_cons_succ])
      refine wpAnyH_ready (rs := [18]) (by kernel_rfl) (by simp) ?_
      refine AllReadyH.cons rfl (fun K hK => ?_) AllReadyH.nil
      go_simp
      refine hK.out _ _ hd4 (fun hHeld => ?_)
      clear hK
      (try simp only [Act.put, List.getElem_toArray, List.getElem_cons_zero, List.getElem_cons_succ, List.setIfInBounds_toArray, List.set_cons_zero, List.set_cons_succ])
      refine wpAnyH_done (by kernel_rfl) ?_ _
      have HPX := Lib.hid HPT
      clear HPT e3 f3 hd3 hd4 hHeld hown hgrow hat hlt
      go_wp2_with fail
      exact bodyPost_end (results_none Try.results70 _ _ _) rfl ⟨⟨_, rfl⟩, HPX.out⟩
  | false =>
    have hs : s ∉ R.map (·.s) := fun hmem => by
      obtain ⟨y, hy, e⟩ := List.mem_map.1 hmem
      have hno := List.any_eq_false.1 hq (gOf y) (List.mem_map_of_mem hy)
      exact hno ((jba_beq _ _).2 e)
    have HPG := Lib.hid (show putG ((R ++ [(⟨s, [], .slice none 0 0⟩ : Gv)]).map gOf) ⟨s, o, f, p, b, h⟩ = putG (R.map gOf) ⟨s, o, f, p, b, h⟩ by
      have hnew : putG (R.map gOf) ⟨s, o, f, p, b, h⟩ = R.map gOf ++ [⟨s, [⟨s, o, f, p, b, h⟩]⟩] := putG_new hq
      rw [hnew, List.map_append]
      have hnd : ((R.map gOf ++ [(⟨s, []⟩ : Gp)]).map (fun g : Gp => g.s)).Nodup := by
        have h1 := T.nod
        rw [List.map_append, List.map_map, List.nodup_append]
        refine ⟨h1, by simp, fun a ha b hb => ?_⟩
        rw [List.map_cons, List.map_nil, List.mem_singleton] at hb
        subst hb
        exact fun e => hs (e ▸ ha)
      have hpg := putG_old (G := R.map gOf ++ [(⟨s, []⟩ : Gp)]) (x := ⟨s, o, f, p, b, h⟩) hnd (k := R.length) (by simp) (by simp)
      rw [show List.map gOf [(⟨s, [], .slice none 0 0⟩ : Gv)] = [⟨s, []⟩] from rfl, hpg]
      simp)
    obtain ⟨i5, hi5, hz5, hs5, hb5⟩ := info_parts sh_info
    have H5 := Lib.hid (And.intro hi5 (And.intro hz5 (And.intro hs5 hb5)))
    have HNL := Lib.hid (show n < maxLen ∧ n + 1 ≤ maxLen ∧ (n + 1) * 40 ≤ 140737488355328 by unfold maxLen; omega)
    have HKY := Lib.hid (skey_of hx)
    have n9 : (n : Int) ≤ 9223372036854775807 := by omega
    have HML := Lib.hid (show 0 + 1 ≤ maxLen ∧ (0 + 1) * 56 ≤ 140737488355328 by unfold maxLen; omega)
    obtain ⟨W1, hW1⟩ : ∃ W1, W1 = W.alloc (.cells #[.string s, .int .i64 o, .bool f, .int .i64 p, .int .i64 b, .bool h] 130) := ⟨_, rfl⟩
    have HB1 : Below W.heap.size W W1 := hW1 ▸ balloc (Below.refl _ W) _
    have hX1 : W1.heap[X]? = some (.cells #[.string s, .int .i64 o, .bool f, .int .i64 p, .int .i64 b, .bool h] 130 (0, 0)) := by rw [hW1, ← hX]; exact heap_alloc_new W _
    have hXl : X < W1.heap.size := (Array.getElem?_eq_some_iff.1 hX1).1
    have HT := Lib.hid (fun (U : World) (hU : Below W1.heap.size W1 U) => T.quiet (bthen HB1 hU))
    have HXU := Lib.hid (fun (U : World) (hU : Below W1.heap.size W1 U) => (hU.block X hXl).trans hX1)
    have HKW := Lib.hid (fun (U : World) (hU : Below W1.heap.size W1 U) => KeepP.below (mb := mb) T.low.size (bthen HB1 hU))
    have b1 : W1.cell? ⟨B, 1, none⟩ = some (.map (some mb)) := Lib.cell_of_heap (HT.out W1 (Below.refl _ _)).cell 1
    have x0 : W1.cell? ⟨X, 0, none⟩ = some (.string s) := Lib.cell_of_heap hX1 0
    have hlk : ∀ n', (Instr.lookup 80 (.map (some mb)) (.string s) true).run Try.prog (W1.drewN n') = .ok (.tuple #[.int .i64 0, .bool false]) (W1.drewN n') := fun n' => (HT.out _ (drewN_below' W1 n')).look_no hq hx
    clear hq hI hR
    go_enter Try.func70, Try.ntmps70
    go_upto_region 1 with fail
    rw [← hW1]
    clear hW1
    go_quiet (fail)
    have hbq := drewN_below' W1 nq
    have T1 := HT.out _ hbq
    have x1 := HXU.out _ hbq
    have k1 := HKW.out _ hbq
    clear hlk b1 x0 hX1 HT HXU HKW hbq HB1 hXl hi5 hz5 hs5 hb5
    generalize W1.drewN nq = U1 at *
    have c0 := Lib.cell_of_heap T1.cell 0
    simp only [List.getElem?_toArray, List.getElem?_cons_zero] at c0
    go_upto_region 4 with fail
    clear c0
    obtain ⟨D, hD, hix⟩ := (T1.quiet (Below.refl _ U1).drew).map
    rw [hn] at hD
    obtain ⟨hd, F4⟩ := more_facts (U := U1.drew) (X := X) (s := s) (o := o) (p := p) (b := b) (f := f) (h := h) (T1.quiet (Below.refl _ U1).drew) hn hs hD hix x1 hXB hXm hXA
    have HF4 := Lib.hid F4
    have HMP := Lib.hid hD
    have K1 := Lib.hid (k1.trans (KeepP.below (W := U1) T1.low.size (Below.refl _ U1).drew))
    clear F4 hD hix k1
    refine wp_region_held_drew (S := (fun U => (U).cell? ⟨B, 1, none⟩ = some (.map (some mb)) ∧ (U).cell? ⟨X, 0, none⟩ = some (.string s))) (by kernel_rfl) hd (fun hHeld => ?_)
    refine wpAnyH_take (i := 0) (v := ?_) rfl (by kernel_rfl) (by kernel_rfl) (by kernel_rfl) (fun _ _ _ h => h) (Or.inl ⟨by rfl, ?_⟩) hHeld ?_
    rotate_left
    · intro W' hSw; (try dsimp only at hSw); go_simp; try (with_reducible rfl)
    (try simp only [Act.put, List.getElem_toArray, List.getElem_cons_zero, List.setIfInBounds_toArray, List.set_cons_zero, List.set_cons_succ])
    refine wpAnyH_take (i := 1) (v := ?_) rfl (by kernel_rfl) (by kernel_rfl) (by kernel_rfl) (fun _ _ _ h => h) (Or.inl ⟨by rfl, ?_⟩) hHeld ?_
    rotate_left
    · intro W' hSw; (try dsimp only at hSw); go_simp; try (with_reducible rfl)
    (try simp only [Act.put, List.getElem_toArray, List.getElem_cons_zero, List.getElem_cons_succ, List.setIfInBounds_toArray, List.set_cons_zero, List.set_cons_succ])
    refine wpAnyH_take (i := 2) (v := ?_) rfl (by kernel_rfl) (by kernel_rfl) (by kernel_rfl) (fun _ _ _ h => h) (Or.inl ⟨by rfl, ?_⟩) hHeld ?_
    rotate_left
    · intro W' hSw; (try dsimp only at hSw); go_simp; try (with_reducible rfl)
    (try simp only [Act.put, List.getElem_toArray, List.getElem_cons_zero, List.getElem_cons_succ, List.setIfInBounds_toArray, List.set_cons_zero, List.set_cons_succ])
    refine wpAnyH_take (i := 3) (v := ?_) rfl (by kernel_rfl) (by kernel_rfl) (by kernel_rfl) (fun _ _ _ h => h) (Or.inl ⟨by rfl, ?_⟩) hHeld ?_
    rotate_left
    · intro W' hSw; (try dsimp only at hSw); go_simp; try (with_reducible rfl)
    (try simp only [Act.put, List.getElem_toArray, List.getElem_cons_zero, List.getElem_cons_succ, List.setIfInBounds_toArray, List.set_cons_zero, List.set_cons_succ])
    refine wpAnyH_take (i := 4) (v := ?_) rfl (by kernel_rfl) (by kernel_rfl) (by kernel_rfl) (fun _ _ _ h => h) (Or.inl ⟨by rfl, ?_⟩) hHeld ?_
    rotate_left
    · intro W' hSw; (try dsimp only at hSw); go_simp; try (with_reducible rfl)
    (try simp only [Act.put, List.getElem_toArray, List.getElem_cons_zero, List.getElem_cons_succ, List.setIfInBounds_toArray, List.set_cons_zero, List.set_cons_succ])
    refine wpAnyH_take (i := 5) (v := ?_) rfl (by kernel_rfl) (by kernel_rfl) (by kernel_rfl) (fun _ _ _ h => h) (Or.inl ⟨by rfl, ?_⟩) hHeld ?_
    rotate_left
    · intro W' hSw; (try dsimp only at hSw); go_simp; try (with_reducible rfl)
    (try simp only [Act.put, List.getElem_toArray, List.getElem_cons_zero, List.getElem_cons_succ, List.setIfInBounds_toArray, List.set_cons_zero, List.set_cons_succ])
    refine wpAnyH_take (i := 6) (v := ?_) rfl (by kernel_rfl) (by kernel_rfl) (by kernel_rfl) (fun _ _ _ h => h) (Or.inl ⟨by rfl, ?_⟩) hHeld ?_
    rotate_left
    · intro W' hSw; (try dsimp only at hSw); go_simp; try (with_reducible rfl)
    (try simp only [Act.put, List.getElem_toArray, List.getElem_cons_zero, List.getElem_cons_succ, List.setIfInBounds_toArray, List.set_cons_zero, List.set_cons_succ])
    refine wpAnyH_ready (rs := [7]) (by kernel_rfl) (by simp) ?_
    refine AllReadyH.cons rfl (fun K hK => ?_) AllReadyH.nil
    refine step_mapUpdate rfl _ _ _ 80 rfl 9 3 skeyed Try.underlying80 ixR mb n D rfl HMP.out HNL.out.1 (.string s) (.int .i64 (n : Int)) (slit s) rfl rfl HKY.out (.lit (.int .i64 (n : Int))) [] (ixR_of _) ?_
    intro w3 hm3 hg3
    have HG3 := Lib.hid hg3.grown
    have HM3 := Lib.hid hm3
    refine hK.out _ _ (HF4.out w3 hm3 hg3.grown).1 (fun _ => ?_)
    clear hK hd hHeld hm3 hg3
    (try simp only [Act.put, List.getElem_toArray, List.getElem_cons_zero, List.getElem_cons_succ])
    refine wpAnyH_done (by kernel_rfl) ?_ _
    obtain ⟨-, hd, e4, FSA, FCA, FOW, FBS, FIN⟩ := HF4.out w3 HM3.out HG3.out
    clear HF4 HM3 HG3 HMP HKY
    go_upto_region 5 with fail
    refine wp_region_held_drew (S := (fun U => (U).cell? ⟨X, 0, none⟩ = some (.string s))) (by kernel_rfl) hd (fun hHeld => ?_)
    generalize w3.drew = Z5 at *
    refine wpAnyH_take (i := 0) (v := ?_) rfl (by kernel_rfl) (by kernel_rfl) (by kernel_rfl) (fun _ _ _ h => h) (Or.inl ⟨by rfl, ?_⟩) hHeld ?_
    rotate_left
    · intro W' hSw; (try dsimp only at hSw); go_simp; try (with_reducible rfl)
    (try simp only [Act.put, List.getElem_toArray, List.getElem_cons_zero, List.setIfInBounds_toArray, List.set_cons_zero, List.set_cons_succ])
    refine wpAnyH_take (i := 1) (v := ?_) rfl (by kernel_rfl) (by kernel_rfl) (by kernel_rfl) (fun _ _ _ h => h) (Or.inl ⟨by rfl, ?_⟩) hHeld ?_
    rotate_left
    · intro W' hSw; (try dsimp only at hSw); go_simp; try (with_reducible rfl)
    (try simp only [Act.put, List.getElem_toArray, List.getElem_cons_zero, List.getElem_cons_succ, List.setIfInBounds_toArray, List.set_cons_zero, List.set_cons_succ])
    refine wpAnyH_take (i := 2) (v := ?_) rfl (by kernel_rfl) (by kernel_rfl) (by kernel_rfl) (fun _ _ _ h => h) (Or.inl ⟨by rfl, ?_⟩) hHeld ?_
    rotate_left
    · intro W' hSw; (try dsimp only at hSw); go_simp; try (with_reducible rfl)
    (try simp only [Act.put, List.getElem_toArray, List.getElem_cons_zero, List.getElem_cons_succ, List.setIfInBounds_toArray, List.set_cons_zero, List.set_cons_succ])
    refine wpAnyH_take (i := 3) (v := ?_) rfl (by kernel_rfl) (by kernel_rfl) (by kernel_rfl) (fun _ _ _ h => h) (Or.inl ⟨by rfl, ?_⟩) hHeld ?_
    rotate_left
    · intro W' hSw; (try dsimp only at hSw); go_simp; try (with_reducible rfl)
    (try simp only [Act.put, List.getElem_toArray, List.getElem_cons_zero, List.getElem_cons_succ, List.setIfInBounds_toArray, List.set_cons_zero, List.set_cons_succ])
    refine wpAnyH_take (i := 5) (v := ?_) rfl (by kernel_rfl) (by kernel_rfl) (by kernel_rfl) (fun _ _ _ h => h) (Or.inl ⟨by rfl, ?_⟩) hHeld ?_
    rotate_left
    · intro W' hSw; (try dsimp only at hSw); go_simp; try (with_reducible rfl)
    (try simp only [Act.put, List.getElem_toArray, List.getElem_cons_zero, List.getElem_cons_succ, List.setIfInBounds_toArray, List.set_cons_zero, List.set_cons_succ])
    refine wpAnyH_take (i := 6) (v := ?_) rfl (by kernel_rfl) (by kernel_rfl) (by kernel_rfl) (fun _ _ _ h => h) (Or.inl ⟨by rfl, ?_⟩) hHeld ?_
    rotate_left
    · intro W' hSw; (try dsimp only at hSw); go_simp; try (with_reducible rfl)
    (try simp only [Act.put, List.getElem_toArray, List.getElem_cons_zero, List.getElem_cons_succ, List.setIfInBounds_toArray, List.set_cons_zero, List.set_cons_succ])
    refine wpAnyH_take (i := 7) (v := ?_) rfl (by kernel_rfl) (by kernel_rfl) (by kernel_rfl) (fun _ _ _ h => h) (Or.inl ⟨by rfl, ?_⟩) hHeld ?_
    rotate_left
    · intro W' hSw; (try dsimp only at hSw); go_simp; try (with_reducible rfl)
    (try simp only [Act.put, List.getElem_toArray, List.getElem_cons_zero, List.getElem_cons_succ, List.setIfInBounds_toArray, List.set_cons_zero, List.set_cons_succ])
    refine wpAnyH_ready (rs := [4, 8]) (by kernel_rfl) (by simp) ?_
    refine AllReadyH.cons rfl (fun K hK => ?_) (AllReadyH.cons rfl (fun K hK => ?_) AllReadyH.nil)
    · go_simp
      refine hK.out _ _ hd (fun hHeld => ?_)
      clear hK
      (try simp only [Act.put, List.getElem_toArray, List.getElem_cons_zero, List.getElem_cons_succ, List.setIfInBounds_toArray, List.set_cons_zero, List.set_cons_succ])
      refine wpAnyH_ready (rs := [8]) (by kernel_rfl) (by simp) ?_
      refine AllReadyH.cons rfl (fun K hK => ?_) AllReadyH.nil
      go_simp
      refine hK.out _ _ (FSA (.cells #[.string s, .slice none 0 0] 87)) (fun hHeld => ?_)
      clear hK
      (try simp only [Act.put, List.getElem_toArray, List.getElem_cons_zero, List.getElem_cons_succ, List.setIfInBounds_toArray, List.set_cons_zero, List.set_cons_succ])
      refine wpAnyH_ready (rs := [9]) (by kernel_rfl) (by simp) ?_
      refine AllReadyH.cons rfl (fun K hK => ?_) AllReadyH.nil
      refine step_append_lies _ rfl _ _ 79 rfl w0.heap.size 87 i5 _ 2 40 Try.underlying79 H5.out.1 H5.out.2.1 H5.out.2.2.1 H5.out.2.2.2 rfl (by decide) (.slice A n c) n (rwC R) (by rfl) (FOW _) ⟨Z5.heap.size, 0, none⟩ 1 1 [.string s, .slice none 0 0] (by rfl) (by rfl) (World.news_of_block (cs := #[.string s, .slice none 0 0]) (heap_alloc_new Z5 _)) (by simp [Value.oneCell']) (by decide) HNL.out.2.1 HNL.out.2.2 (FBS _) (Z5.heap.size + 1) (by simp) ?_
      intro g5 c5 u4 hown hgrow hat hlt
      obtain ⟨hd3, e3, f3, hd4, HPT⟩ := FIN _ u4 g5 c5 hown hgrow hat
      refine hK.out _ _ hd3 (fun hHeld => ?_)
      clear hK
      (try simp only [Act.put, List.getElem_toArray, List.getElem_cons_zero, List.getElem_cons_succ, List.setIfInBounds_toArray, List.set_cons_zero, List.set_cons_succ])
      refine wpAnyH_take (i := 10) (v := ?_) rfl (by kernel_rfl) (by kernel_rfl) (by kernel_rfl) (fun _ _ _ h => h) (Or.inl ⟨by rfl, ?_⟩) hHeld ?_
      rotate_left
      · intro W' hSw; (try dsimp only at hSw); go_simp; try (with_reducible rfl)
      (try simp only [Act.put, List.getElem_toArray, List.getElem_cons_zero, List.getElem_cons_succ, List.setIfInBounds_toArray, List.set_cons_zero, List.set_cons_succ])
      refine wpAnyH_take (i := 11) (v := ?_) rfl (by kernel_rfl) (by kernel_rfl) (by kernel_rfl) (fun _ _ _ h => h) (Or.inl ⟨by rfl, ?_⟩) hHeld ?_
      rotate_left
      · intro W' hSw; (try dsimp only at hSw); go_simp; try (with_reducible rfl)
      (try simp only [Act.put, List.getElem_toArray, List.getElem_cons_zero, List.getElem_cons_succ, List.setIfInBounds_toArray, List.set_cons_zero, List.set_cons_succ])
      refine wpAnyH_ready (rs := [12]) (by kernel_rfl) (by simp) ?_
      refine AllReadyH.cons rfl (fun K hK => ?_) AllReadyH.nil
      go_simp
      refine hK.out _ _ hd4 (fun hHeld => ?_)
      clear hK
      (try simp only [Act.put, List.getElem_toArray, List.getElem_cons_zero, List.getElem_cons_succ, List.setIfInBounds_toArray, List.set_cons_zero, List.set_cons_succ])
      refine wpAnyH_done (by kernel_rfl) ?_ _
      have HPX := Lib.hid HPT
      clear HPT e3 f3 hd3 hd4 hHeld hown hgrow hat hlt FIN FOW FBS FCA FSA e4 hd
      obtain ⟨T5, k5, x5, hXg⟩ := HPX.out
      have K5 := K1.out.trans k5
      have HN5 := (show (R ++ [(⟨s, [], .slice none 0 0⟩ : Gv)]).length = n + 1 by rw [List.length_append, hn]; rfl)
      clear HPX k5
      have hXv5 : ∀ i (hi : i < (R ++ [(⟨s, [], .slice none 0 0⟩ : Gv)]).length), (R ++ [(⟨s, [], .slice none 0 0⟩ : Gv)])[i].v.ownBlock ≠ some X := fun i hi => by
        by_cases hil : i < R.length
        · rw [List.getElem_append_left hil]; exact hXv i hil
        · have e : i = R.length := by simp at hi; omega
          subst e
          rw [List.getElem_concat_length rfl]
          simp [Value.ownBlock]
      have hk5 : n < (R ++ [(⟨s, [], .slice none 0 0⟩ : Gv)]).length := by rw [HN5]; omega
      have hg5 : (R ++ [(⟨s, [], .slice none 0 0⟩ : Gv)])[n] = ⟨s, [], .slice none 0 0⟩ := by simp [← hn]
      have hm5 : (R ++ [(⟨s, [], .slice none 0 0⟩ : Gv)])[n].l.length = 0 := by rw [hg5]; rfl
      have he5 : (R ++ [(⟨s, [], .slice none 0 0⟩ : Gv)])[n].s = s := by rw [hg5]
      have hv5 : (R ++ [(⟨s, [], .slice none 0 0⟩ : Gv)])[n].v = .slice none 0 0 := by rw [hg5]
      generalize (u4.setCell ⟨B, 0, none⟩ (.slice (some ⟨g5, 0, none⟩) (n + 1) c5)) = U5 at *
      go_upto_region 6 with fail
      have F6 := item_facts (U := U5.drew) (X := X) (R := (R ++ [(⟨s, [], .slice none 0 0⟩ : Gv)])) (s := s) (o := o) (p := p) (b := b) (f := f) (h := h) (k := n) (m := 0) (g := g5) (n := (n + 1)) (c := c5) (T5.quiet (Below.refl _ U5).drew) HN5 hk5 hm5 he5 x5 hXg hXB hXv5
      rw [hv5] at F6
      obtain ⟨hd, e12, FSA, FCA, FOW, FBS, FIN⟩ := F6
      have HFN := Lib.hid (fun (O : Obj) (u : World) (gg cap : Nat) h1 h2 h3 => (show ((u).cell? ⟨B, 0, none⟩ = some (.slice (some ⟨g5, 0, none⟩) (n + 1) c5) ∧ (u).cell? ⟨X, 0, none⟩ = some (.string s) ∧ (u).cell? ⟨X, 1, none⟩ = some (.int .i64 o) ∧ (u).cell? ⟨X, 2, none⟩ = some (.bool f) ∧ (u).cell? ⟨X, 3, none⟩ = some (.int .i64 p) ∧ (u).cell? ⟨X, 4, none⟩ = some (.int .i64 b) ∧ (u).cell? ⟨X, 5, none⟩ = some (.bool h)) ∧ u.cell? ⟨g5, n * 2 + 1, none⟩ = some (.slice none 0 0) ∧ u.frozen? ⟨g5, n * 2 + 1, none⟩ = false ∧ (((u.setCell ⟨g5, n * 2 + 1, none⟩ (.slice (some ⟨gg, 0, none⟩) (0 + 1) cap))).cell? ⟨B, 0, none⟩ = some (.slice (some ⟨g5, 0, none⟩) (n + 1) c5) ∧ ((u.setCell ⟨g5, n * 2 + 1, none⟩ (.slice (some ⟨gg, 0, none⟩) (0 + 1) cap))).cell? ⟨X, 0, none⟩ = some (.string s) ∧ ((u.setCell ⟨g5, n * 2 + 1, none⟩ (.slice (some ⟨gg, 0, none⟩) (0 + 1) cap))).cell? ⟨X, 1, none⟩ = some (.int .i64 o) ∧ ((u.setCell ⟨g5, n * 2 + 1, none⟩ (.slice (some ⟨gg, 0, none⟩) (0 + 1) cap))).cell? ⟨X, 2, none⟩ = some (.bool f) ∧ ((u.setCell ⟨g5, n * 2 + 1, none⟩ (.slice (some ⟨gg, 0, none⟩) (0 + 1) cap))).cell? ⟨X, 3, none⟩ = some (.int .i64 p) ∧ ((u.setCell ⟨g5, n * 2 + 1, none⟩ (.slice (some ⟨gg, 0, none⟩) (0 + 1) cap))).cell? ⟨X, 4, none⟩ = some (.int .i64 b) ∧ ((u.setCell ⟨g5, n * 2 + 1, none⟩ (.slice (some ⟨gg, 0, none⟩) (0 + 1) cap))).cell? ⟨X, 5, none⟩ = some (.bool h)) ∧ ∃ R' v', TabAt w0 B mb R' v' (u.setCell ⟨g5, n * 2 + 1, none⟩ (.slice (some ⟨gg, 0, none⟩) (0 + 1) cap)) ∧ R'.map gOf = putG (R.map gOf) ⟨s, o, f, p, b, h⟩ ∧ KeepP w0.heap.size mb W (u.setCell ⟨g5, n * 2 + 1, none⟩ (.slice (some ⟨gg, 0, none⟩) (0 + 1) cap)) from by
        obtain ⟨a1, a2, a3, a4, a5, a6, a7⟩ := FIN O u gg cap h1 h2 h3
        exact ⟨a1, a2, a3, a4, _, _, a5, a7.trans HPG.out, K5.trans ((KeepP.below (W := U5) T5.low.size (Below.refl _ U5).drew).trans a6)⟩))
      obtain ⟨i6, hi6, hz6, hs6, hb6⟩ := info_parts it_info
      have H6 := Lib.hid (And.intro hi6 (And.intro hz6 (And.intro hs6 hb6)))
      have j0 : (0 : Int) ≤ ((n : Nat) : Int) := Int.natCast_nonneg _
      have j1 : ((n : Nat) : Int) < (((n + 1) : Nat) : Int) := by omega
      have j2 : ((n : Nat) : Int) < ((n : Nat) : Int) + 1 := by omega
      clear FIN hi6 hz6 hs6 hb6
      refine wp_region_held_drew (S := (fun U => (U).cell? ⟨B, 0, none⟩ = some (.slice (some ⟨g5, 0, none⟩) (n + 1) c5) ∧ (U).cell? ⟨X, 0, none⟩ = some (.string s) ∧ (U).cell? ⟨X, 1, none⟩ = some (.int .i64 o) ∧ (U).cell? ⟨X, 2, none⟩ = some (.bool f) ∧ (U).cell? ⟨X, 3, none⟩ = some (.int .i64 p) ∧ (U).cell? ⟨X, 4, none⟩ = some (.int .i64 b) ∧ (U).cell? ⟨X, 5, none⟩ = some (.bool h))) (by kernel_rfl) hd (fun hHeld => ?_)
      generalize U5.drew = Z6 at *
      refine wpAnyH_take (i := 0) (v := ?_) rfl (by kernel_rfl) (by kernel_rfl) (by kernel_rfl) (fun _ _ _ h => h) (Or.inl ⟨by rfl, ?_⟩) hHeld ?_
      rotate_left
      · intro W' hSw; (try dsimp only at hSw); go_simp; try (with_reducible rfl)
      (try simp only [Act.put, List.getElem_toArray, List.getElem_cons_zero, List.setIfInBounds_toArray, List.set_cons_zero, List.set_cons_succ])
      refine wpAnyH_take (i := 1) (v := ?_) rfl (by kernel_rfl) (by kernel_rfl) (by kernel_rfl) (fun _ _ _ h => h) (Or.inl ⟨by rfl, ?_⟩) hHeld ?_
      rotate_left
      · intro W' hSw; (try dsimp only at hSw); go_simp; try (with_reducible rfl)
      (try simp only [Act.put, List.getElem_toArray, List.getElem_cons_zero, List.getElem_cons_succ, List.setIfInBounds_toArray, List.set_cons_zero, List.set_cons_succ])
      refine wpAnyH_take (i := 2) (v := ?_) rfl (by kernel_rfl) (by kernel_rfl) (by kernel_rfl) (fun _ _ _ h => h) (Or.inl ⟨by rfl, ?_⟩) hHeld ?_
      rotate_left
      · intro W' hSw; (try dsimp only at hSw); go_simp; try (with_reducible rfl)
      (try simp only [Act.put, List.getElem_toArray, List.getElem_cons_zero, List.getElem_cons_succ, List.setIfInBounds_toArray, List.set_cons_zero, List.set_cons_succ])
      refine wpAnyH_take (i := 3) (v := ?_) rfl (by kernel_rfl) (by kernel_rfl) (by kernel_rfl) (fun _ _ _ h => h) (Or.inl ⟨by rfl, ?_⟩) hHeld ?_
      rotate_left
      · intro W' hSw; (try dsimp only at hSw); go_simp; try (with_reducible rfl)
      (try simp only [Act.put, List.getElem_toArray, List.getElem_cons_zero, List.getElem_cons_succ, List.setIfInBounds_toArray, List.set_cons_zero, List.set_cons_succ])
      refine wpAnyH_take (i := 4) (v := ?_) rfl (by kernel_rfl) (by kernel_rfl) (by kernel_rfl) (fun _ _ _ h => h) (Or.inl ⟨by rfl, ?_⟩) hHeld ?_
      rotate_left
      · intro W' hSw; (try dsimp only at hSw); go_simp; try (with_reducible rfl)
      (try simp only [Act.put, List.getElem_toArray, List.getElem_cons_zero, List.getElem_cons_succ, List.setIfInBounds_toArray, List.set_cons_zero, List.set_cons_succ])
      refine wpAnyH_take (i := 5) (v := ?_) rfl (by kernel_rfl) (by kernel_rfl) (by kernel_rfl) (fun _ _ _ h => h) (Or.inl ⟨by rfl, ?_⟩) hHeld ?_
      rotate_left
      · intro W' hSw; (try dsimp only at hSw); go_simp; try (with_reducible rfl)
      (try simp only [Act.put, List.getElem_toArray, List.getElem_cons_zero, List.getElem_cons_succ, List.setIfInBounds_toArray, List.set_cons_zero, List.set_cons_succ])
      refine wpAnyH_take (i := 6) (v := ?_) rfl (by kernel_rfl) (by kernel_rfl) (by kernel_rfl) (fun _ _ _ h => h) (Or.inl ⟨by rfl, ?_⟩) hHeld ?_
      rotate_left
      · intro W' hSw; (try dsimp only at hSw); go_simp; try (with_reducible rfl)
      (try simp only [Act.put, List.getElem_toArray, List.getElem_cons_zero, List.getElem_cons_succ, List.setIfInBounds_toArray, List.set_cons_zero, List.set_cons_succ])
      refine wpAnyH_take (i := 7) (v := ?_) rfl (by kernel_rfl) (by kernel_rfl) (by kernel_rfl) (fun _ _ _ h => h) (Or.inl ⟨by rfl, ?_⟩) hHeld ?_
      rotate_left
      · intro W' hSw; (try dsimp only at hSw); go_simp; try (with_reducible rfl)
      (try simp only [Act.put, List.getElem_toArray, List.getElem_cons_zero, List.getElem_cons_succ, List.setIfInBounds_toArray, List.set_cons_zero, List.set_cons_succ])
      refine wpAnyH_take (i := 8) (v := ?_) rfl (by kernel_rfl) (by kernel_rfl) (by kernel_rfl) (fun _ _ _ h => h) (Or.inl ⟨by rfl, ?_⟩) hHeld ?_
      rotate_left
      · intro W' hSw; (try dsimp only at hSw); go_simp; try (with_reducible rfl)
      (try simp only [Act.put, List.getElem_toArray, List.getElem_cons_zero, List.getElem_cons_succ, List.setIfInBounds_toArray, List.set_cons_zero, List.set_cons_succ])
      refine wpAnyH_take (i := 9) (v := ?_) rfl (by kernel_rfl) (by kernel_rfl) (by kernel_rfl) (fun _ _ _ h => h) (Or.inl ⟨by rfl, ?_⟩) hHeld ?_
      rotate_left
      · intro W' hSw; (try dsimp only at hSw); go_simp; try (with_reducible rfl)
      (try simp only [Act.put, List.getElem_toArray, List.getElem_cons_zero, List.getElem_cons_succ, List.setIfInBounds_toArray, List.set_cons_zero, List.set_cons_succ])
      refine wpAnyH_take (i := 10) (v := ?_) rfl (by kernel_rfl) (by kernel_rfl) (by kernel_rfl) (fun _ _ _ h => h) (Or.inl ⟨by rfl, ?_⟩) hHeld ?_
      rotate_left
      · intro W' hSw; (try dsimp only at hSw); go_simp; try (with_reducible rfl)
      (try simp only [Act.put, List.getElem_toArray, List.getElem_cons_zero, List.getElem_cons_succ, List.setIfInBounds_toArray, List.set_cons_zero, List.set_cons_succ])
      refine wpAnyH_take (i := 11) (v := ?_) rfl (by kernel_rfl) (by kernel_rfl) (by kernel_rfl) (fun _ _ _ h => h) (Or.inl ⟨by rfl, ?_⟩) hHeld ?_
      rotate_left
      · intro W' hSw; (try dsimp only at hSw); go_simp; try (with_reducible rfl)
      (try simp only [Act.put, List.getElem_toArray, List.getElem_cons_zero, List.getElem_cons_succ, List.setIfInBounds_toArray, List.set_cons_zero, List.set_cons_succ])
      refine wpAnyH_take (i := 13) (v := ?_) rfl (by kernel_rfl) (by kernel_rfl) (by kernel_rfl) (fun _ _ _ h => h) (Or.inl ⟨by rfl, ?_⟩) hHeld ?_
      rotate_left
      · intro W' hSw; (try dsimp only at hSw); go_simp; try (with_reducible rfl)
      (try simp only [Act.put, List.getElem_toArray, List.getElem_cons_zero, List.getElem_cons_succ, List.setIfInBounds_toArray, List.set_cons_zero, List.set_cons_succ])
      refine wpAnyH_ready (rs := [12, 14]) (by kernel_rfl) (by simp) ?_
      refine AllReadyH.cons rfl (fun K hK => ?_) (AllReadyH.cons rfl (fun K hK => ?_) AllReadyH.nil)
      · go_simp
        refine hK.out _ _ hd (fun hHeld => ?_)
        clear hK
        (try simp only [Act.put, List.getElem_toArray, List.getElem_cons_zero, List.getElem_cons_succ, List.setIfInBounds_toArray, List.set_cons_zero, List.set_cons_succ])
        refine wpAnyH_ready (rs := [14]) (by kernel_rfl) (by simp) ?_
        refine AllReadyH.cons rfl (fun K hK => ?_) AllReadyH.nil
        go_simp
        refine hK.out _ _ (FSA (.cells #[.string s, .int .i64 o, .bool f, .int .i64 p, .int .i64 b, .bool h] 130)) (fun hHeld => ?_)
        clear hK
        (try simp only [Act.put, List.getElem_toArray, List.getElem_cons_zero, List.getElem_cons_succ, List.setIfInBounds_toArray, List.set_cons_zero, List.set_cons_succ])
        refine wpAnyH_ready (rs := [15]) (by kernel_rfl) (by simp) ?_
        refine AllReadyH.cons rfl (fun K hK => ?_) AllReadyH.nil
        refine step_append_lies _ rfl _ _ 85 rfl w0.heap.size 130 i6 _ 6 56 Try.underlying85 H6.out.1 H6.out.2.1 H6.out.2.2.1 H6.out.2.2.2 rfl (by decide) (.slice none 0 0) 0 (itC (R ++ [(⟨s, [], .slice none 0 0⟩ : Gv)])[n].l) (by rfl) (FOW _) ⟨Z6.heap.size, 0, none⟩ 1 1 [.string s, .int .i64 o, .bool f, .int .i64 p, .int .i64 b, .bool h] (by rfl) (by rfl) (World.news_of_block (cs := #[.string s, .int .i64 o, .bool f, .int .i64 p, .int .i64 b, .bool h]) (heap_alloc_new Z6 _)) (by simp [Value.oneCell']) (by decide) HML.out.1 HML.out.2 (FBS _) (Z6.heap.size + 1) (by simp) ?_
        intro gg cap u3 hown hgrow hat hlt
        obtain ⟨hd3, e3, f3, hd4, HPT⟩ := HFN.out _ u3 gg cap hown hgrow hat
        refine hK.out _ _ hd3 (fun hHeld => ?_)
        clear hK
        (try simp only [Act.put, List.getElem_toArray, List.getElem_cons_zero, List.getElem_cons_succ, List.setIfInBounds_toArray, List.set_cons_zero, List.set_cons_succ])
        refine wpAnyH_take (i := 16) (v := ?_) rfl (by kernel_rfl) (by kernel_rfl) (by kernel_rfl) (fun _ _ _ h => h) (Or.inl ⟨by rfl, ?_⟩) hHeld ?_
        rotate_left
        · intro W' hSw; (try dsimp only at hSw); go_simp; try (with_reducible rfl)
        (try simp only [Act.put, List.getElem_toArray, List.getElem_cons_zero, List.getElem_cons_succ, List.setIfInBounds_toArray, List.set_cons_zero, List.set_cons_succ])
        refine wpAnyH_take (i := 17) (v := ?_) rfl (by kernel_rfl) (by kernel_rfl) (by kernel_rfl) (fun _ _ _ h => h) (Or.inl ⟨by rfl, ?_⟩) hHeld ?_
        rotate_left
        · intro W' hSw; (try dsimp only at hSw); go_simp; try (with_reducible rfl)
        (try simp only [Act.put, List.getElem_toArray, List.getElem_cons_zero, List.getElem_cons_succ, List.setIfInBounds_toArray, List.set_cons_zero, List.set_cons_succ])
        refine wpAnyH_ready (rs := [18]) (by kernel_rfl) (by simp) ?_
        refine AllReadyH.cons rfl (fun K hK => ?_) AllReadyH.nil
        go_simp
        refine hK.out _ _ hd4 (fun hHeld => ?_)
        clear hK
        (try simp only [Act.put, List.getElem_toArray, List.getElem_cons_zero, List.getElem_cons_succ, List.setIfInBounds_toArray, List.set_cons_zero, List.set_cons_succ])
        refine wpAnyH_done (by kernel_rfl) ?_ _
        have HPX := Lib.hid HPT
        clear HPT e3 f3 hd3 hd4 hHeld hown hgrow hat hlt
        go_wp2_with fail
        exact bodyPost_end (results_none Try.results70 _ _ _) rfl ⟨⟨_, rfl⟩, HPX.out⟩
      · go_simp
        have e12b := FCA (.cells #[.string s, .int .i64 o, .bool f, .int .i64 p, .int .i64 b, .bool h] 130)
        refine hK.out _ _ (FSA (.cells #[.string s, .int .i64 o, .bool f, .int .i64 p, .int .i64 b, .bool h] 130)) (fun hHeld => ?_)
        clear hK
        (try simp only [Act.put, List.getElem_toArray, List.getElem_cons_zero, List.getElem_cons_succ, List.setIfInBounds_toArray, List.set_cons_zero, List.set_cons_succ])
        refine wpAnyH_ready (rs := [12]) (by kernel_rfl) (by simp) ?_
        refine AllReadyH.cons rfl (fun K hK => ?_) AllReadyH.nil
        go_simp
        refine hK.out _ _ (FSA (.cells #[.string s, .int .i64 o, .bool f, .int .i64 p, .int .i64 b, .bool h] 130)) (fun hHeld => ?_)
        clear hK
        (try simp only [Act.put, List.getElem_toArray, List.getElem_cons_zero, List.getElem_cons_succ, List.setIfInBounds_toArray, List.set_cons_zero, List.set_cons_succ])
        refine wpAnyH_ready (rs := [15]) (by kernel_rfl) (by simp) ?_
        refine AllReadyH.cons rfl (fun K hK => ?_) AllReadyH.nil
        refine step_append_lies _ rfl _ _ 85 rfl w0.heap.size 130 i6 _ 6 56 Try.underlying85 H6.out.1 H6.out.2.1 H6.out.2.2.1 H6.out.2.2.2 rfl (by decide) (.slice none 0 0) 0 (itC (R ++ [(⟨s, [], .slice none 0 0⟩ : Gv)])[n].l) (by rfl) (FOW _) ⟨Z6.heap.size, 0, none⟩ 1 1 [.string s, .int .i64 o, .bool f, .int .i64 p, .int .i64 b, .bool h] (by rfl) (by rfl) (World.news_of_block (cs := #[.string s, .int .i64 o, .bool f, .int .i64 p, .int .i64 b, .bool h]) (heap_alloc_new Z6 _)) (by simp [Value.oneCell']) (by decide) HML.out.1 HML.out.2 (FBS _) (Z6.heap.size + 1) (by simp) ?_
        intro gg cap u3 hown hgrow hat hlt
        obtain ⟨hd3, e3, f3, hd4, HPT⟩ := HFN.out _ u3 gg cap hown hgrow hat
        refine hK.out _ _ hd3 (fun hHeld => ?_)
        clear hK
        (try simp only [Act.put, List.getElem_toArray, List.getElem_cons_zero, List.getElem_cons_succ, List.setIfInBounds_toArray, List.set_cons_zero, List.set_cons_succ])
        refine wpAnyH_take (i := 16) (v := ?_) rfl (by kernel_rfl) (by kernel_rfl) (by kernel_rfl) (fun _ _ _ h => h) (Or.inl ⟨by rfl, ?_⟩) hHeld ?_
        rotate_left
        · intro W' hSw; (try dsimp only at hSw); go_simp; try (with_reducible rfl)
        (try simp only [Act.put, List.getElem_toArray, List.getElem_cons_zero, List.getElem_cons_succ, List.setIfInBounds_toArray, List.set_cons_zero, List.set_cons_succ])
        refine wpAnyH_take (i := 17) (v := ?_) rfl (by kernel_rfl) (by kernel_rfl) (by kernel_rfl) (fun _ _ _ h => h) (Or.inl ⟨by rfl, ?_⟩) hHeld ?_
        rotate_left
        · intro W' hSw; (try dsimp only at hSw); go_simp; try (with_reducible rfl)
        (try simp only [Act.put, List.getElem_toArray, List.getElem_cons_zero, List.getElem_cons_succ, List.setIfInBounds_toArray, List.set_cons_zero, List.set_cons_succ])
        refine wpAnyH_ready (rs := [18]) (by kernel_rfl) (by simp) ?_
        refine AllReadyH.cons rfl (fun K hK => ?_) AllReadyH.nil
        go_simp
        refine hK.out _ _ hd4 (fun hHeld => ?_)
        clear hK
        (try simp only [Act.put, List.getElem_toArray, List.getElem_cons_zero, List.getElem_cons_succ, List.setIfInBounds_toArray, List.set_cons_zero, List.set_cons_succ])
        refine wpAnyH_done (by kernel_rfl) ?_ _
        have HPX := Lib.hid HPT
        clear HPT e3 f3 hd3 hd4 hHeld hown hgrow hat hlt
        go_wp2_with fail
        exact bodyPost_end (results_none Try.results70 _ _ _) rfl ⟨⟨_, rfl⟩, HPX.out⟩
    · go_simp
      have e4b := FCA (.cells #[.string s, .slice none 0 0] 87)
      refine hK.out _ _ (FSA (.cells #[.string s, .slice none 0 0] 87)) (fun hHeld => ?_)
      clear hK
      (try simp only [Act.put, List.getElem_toArray, List.getElem_cons_zero, List.getElem_cons_succ, List.setIfInBounds_toArray, List.set_cons_zero, List.set_cons_succ])
      refine wpAnyH_ready (rs := [4]) (by kernel_rfl) (by simp) ?_
      refine AllReadyH.cons rfl (fun K hK => ?_) AllReadyH.nil
      go_simp
      refine hK.out _ _ (FSA (.cells #[.string s, .slice none 0 0] 87)) (fun hHeld => ?_)
      clear hK
      (try simp only [Act.put, List.getElem_toArray, List.getElem_cons_zero, List.getElem_cons_succ, List.setIfInBounds_toArray, List.set_cons_zero, List.set_cons_succ])
      refine wpAnyH_ready (rs := [9]) (by kernel_rfl) (by simp) ?_
      refine AllReadyH.cons rfl (fun K hK => ?_) AllReadyH.nil
      refine step_append_lies _ rfl _ _ 79 rfl w0.heap.size 87 i5 _ 2 40 Try.underlying79 H5.out.1 H5.out.2.1 H5.out.2.2.1 H5.out.2.2.2 rfl (by decide) (.slice A n c) n (rwC R) (by rfl) (FOW _) ⟨Z5.heap.size, 0, none⟩ 1 1 [.string s, .slice none 0 0] (by rfl) (by rfl) (World.news_of_block (cs := #[.string s, .slice none 0 0]) (heap_alloc_new Z5 _)) (by simp [Value.oneCell']) (by decide) HNL.out.2.1 HNL.out.2.2 (FBS _) (Z5.heap.size + 1) (by simp) ?_
      intro g5 c5 u4 hown hgrow hat hlt
      obtain ⟨hd3, e3, f3, hd4, HPT⟩ := FIN _ u4 g5 c5 hown hgrow hat
      refine hK.out _ _ hd3 (fun hHeld => ?_)
      clear hK
      (try simp only [Act.put, List.getElem_toArray, List.getElem_cons_zero, List.getElem_cons_succ, List.setIfInBounds_toArray, List.set_cons_zero, List.set_cons_succ])
      refine wpAnyH_take (i := 10) (v := ?_) rfl (by kernel_rfl) (by kernel_rfl) (by kernel_rfl) (fun _ _ _ h => h) (Or.inl ⟨by rfl, ?_⟩) hHeld ?_
      rotate_left
      · intro W' hSw; (try dsimp only at hSw); go_simp; try (with_reducible rfl)
      (try simp only [Act.put, List.getElem_toArray, List.getElem_cons_zero, List.getElem_cons_succ, List.setIfInBounds_toArray, List.set_cons_zero, List.set_cons_succ])
      refine wpAnyH_take (i := 11) (v := ?_) rfl (by kernel_rfl) (by kernel_rfl) (by kernel_rfl) (fun _ _ _ h => h) (Or.inl ⟨by rfl, ?_⟩) hHeld ?_
      rotate_left
      · intro W' hSw; (try dsimp only at hSw); go_simp; try (with_reducible rfl)
      (try simp only [Act.put, List.getElem_toArray, List.getElem_cons_zero, List.getElem_cons_succ, List.setIfInBounds_toArray, List.set_cons_zero, List.set_cons_succ])
      refine wpAnyH_ready (rs := [12]) (by kernel_rfl) (by simp) ?_
      refine AllReadyH.cons rfl (fun K hK => ?_) AllReadyH.nil
      go_simp
      refine hK.out _ _ hd4 (fun hHeld => ?_)
      clear hK
      (try simp only [Act.put, List.getElem_toArray, List.getElem_cons_zero, List.getElem_cons_succ, List.setIfInBounds_toArray, List.set_cons_zero, List.set_cons_succ])
      refine wpAnyH_done (by kernel_rfl) ?_ _
      have HPX := Lib.hid HPT
      clear HPT e3 f3 hd3 hd4 hHeld hown hgrow hat hlt FIN FOW FBS FCA FSA e4 hd
      obtain ⟨T5, k5, x5, hXg⟩ := HPX.out
      have K5 := K1.out.trans k5
      have HN5 := (show (R ++ [(⟨s, [], .slice none 0 0⟩ : Gv)]).length = n + 1 by rw [List.length_append, hn]; rfl)
      clear HPX k5
      have hXv5 : ∀ i (hi : i < (R ++ [(⟨s, [], .slice none 0 0⟩ : Gv)]).length), (R ++ [(⟨s, [], .slice none 0 0⟩ : Gv)])[i].v.ownBlock ≠ some X := fun i hi => by
        by_cases hil : i < R.length
        · rw [List.getElem_append_left hil]; exact hXv i hil
        · have e : i = R.length := by simp at hi; omega
          subst e
          rw [List.getElem_concat_length rfl]
          simp [Value.ownBlock]
      have hk5 : n < (R ++ [(⟨s, [], .slice none 0 0⟩ : Gv)]).length := by rw [HN5]; omega
      have hg5 : (R ++ [(⟨s, [], .slice none 0 0⟩ : Gv)])[n] = ⟨s, [], .slice none 0 0⟩ := by simp [← hn]
      have hm5 : (R ++ [(⟨s, [], .slice none 0 0⟩ : Gv)])[n].l.length = 0 := by rw [hg5]; rfl
      have he5 : (R ++ [(⟨s, [], .slice none 0 0⟩ : Gv)])[n].s = s := by rw [hg5]
      have hv5 : (R ++ [(⟨s, [], .slice none 0 0⟩ : Gv)])[n].v = .slice none 0 0 := by rw [hg5]
      generalize (u4.setCell ⟨B, 0, none⟩ (.slice (some ⟨g5, 0, none⟩) (n + 1) c5)) = U5 at *
      go_upto_region 6 with fail
      have F6 := item_facts (U := U5.drew) (X := X) (R := (R ++ [(⟨s, [], .slice none 0 0⟩ : Gv)])) (s := s) (o := o) (p := p) (b := b) (f := f) (h := h) (k := n) (m := 0) (g := g5) (n := (n + 1)) (c := c5) (T5.quiet (Below.refl _ U5).drew) HN5 hk5 hm5 he5 x5 hXg hXB hXv5
      rw [hv5] at F6
      obtain ⟨hd, e12, FSA, FCA, FOW, FBS, FIN⟩ := F6
      have HFN := Lib.hid (fun (O : Obj) (u : World) (gg cap : Nat) h1 h2 h3 => (show ((u).cell? ⟨B, 0, none⟩ = some (.slice (some ⟨g5, 0, none⟩) (n + 1) c5) ∧ (u).cell? ⟨X, 0, none⟩ = some (.string s) ∧ (u).cell? ⟨X, 1, none⟩ = some (.int .i64 o) ∧ (u).cell? ⟨X, 2, none⟩ = some (.bool f) ∧ (u).cell? ⟨X, 3, none⟩ = some (.int .i64 p) ∧ (u).cell? ⟨X, 4, none⟩ = some (.int .i64 b) ∧ (u).cell? ⟨X, 5, none⟩ = some (.bool h)) ∧ u.cell? ⟨g5, n * 2 + 1, none⟩ = some (.slice none 0 0) ∧ u.frozen? ⟨g5, n * 2 + 1, none⟩ = false ∧ (((u.setCell ⟨g5, n * 2 + 1, none⟩ (.slice (some ⟨gg, 0, none⟩) (0 + 1) cap))).cell? ⟨B, 0, none⟩ = some (.slice (some ⟨g5, 0, none⟩) (n + 1) c5) ∧ ((u.setCell ⟨g5, n * 2 + 1, none⟩ (.slice (some ⟨gg, 0, none⟩) (0 + 1) cap))).cell? ⟨X, 0, none⟩ = some (.string s) ∧ ((u.setCell ⟨g5, n * 2 + 1, none⟩ (.slice (some ⟨gg, 0, none⟩) (0 + 1) cap))).cell? ⟨X, 1, none⟩ = some (.int .i64 o) ∧ ((u.setCell ⟨g5, n * 2 + 1, none⟩ (.slice (some ⟨gg, 0, none⟩) (0 + 1) cap))).cell? ⟨X, 2, none⟩ = some (.bool f) ∧ ((u.setCell ⟨g5, n * 2 + 1, none⟩ (.slice (some ⟨gg, 0, none⟩) (0 + 1) cap))).cell? ⟨X, 3, none⟩ = some (.int .i64 p) ∧ ((u.setCell ⟨g5, n * 2 + 1, none⟩ (.slice (some ⟨gg, 0, none⟩) (0 + 1) cap))).cell? ⟨X, 4, none⟩ = some (.int .i64 b) ∧ ((u.setCell ⟨g5, n * 2 + 1, none⟩ (.slice (some ⟨gg, 0, none⟩) (0 + 1) cap))).cell? ⟨X, 5, none⟩ = some (.bool h)) ∧ ∃ R' v', TabAt w0 B mb R' v' (u.setCell ⟨g5, n * 2 + 1, none⟩ (.slice (some ⟨gg, 0, none⟩) (0 + 1) cap)) ∧ R'.map gOf = putG (R.map gOf) ⟨s, o, f, p, b, h⟩ ∧ KeepP w0.heap.size mb W (u.setCell ⟨g5, n * 2 + 1, none⟩ (.slice (some ⟨gg, 0, none⟩) (0 + 1) cap)) from by
        obtain ⟨a1, a2, a3, a4, a5, a6, a7⟩ := FIN O u gg cap h1 h2 h3
        exact ⟨a1, a2, a3, a4, _, _, a5, a7.trans HPG.out, K5.trans ((KeepP.below (W := U5) T5.low.size (Below.refl _ U5).drew).trans a6)⟩))
      obtain ⟨i6, hi6, hz6, hs6, hb6⟩ := info_parts it_info
      have H6 := Lib.hid (And.intro hi6 (And.intro hz6 (And.intro hs6 hb6)))
      have j0 : (0 : Int) ≤ ((n : Nat) : Int) := Int.natCast_nonneg _
      have j1 : ((n : Nat) : Int) < (((n + 1) : Nat) : Int) := by omega
      have j2 : ((n : Nat) : Int) < ((n : Nat) : Int) + 1 := by omega
      clear FIN hi6 hz6 hs6 hb6
      refine wp_region_held_drew (S := (fun U => (U).cell? ⟨B, 0, none⟩ = some (.slice (some ⟨g5, 0, none⟩) (n + 1) c5) ∧ (U).cell? ⟨X, 0, none⟩ = some (.string s) ∧ (U).cell? ⟨X, 1, none⟩ = some (.int .i64 o) ∧ (U).cell? ⟨X, 2, none⟩ = some (.bool f) ∧ (U).cell? ⟨X, 3, none⟩ = some (.int .i64 p) ∧ (U).cell? ⟨X, 4, none⟩ = some (.int .i64 b) ∧ (U).cell? ⟨X, 5, none⟩ = some (.bool h))) (by kernel_rfl) hd (fun hHeld => ?_)
      generalize U5.drew = Z6 at *
      refine wpAnyH_take (i := 0) (v := ?_) rfl (by kernel_rfl) (by kernel_rfl) (by kernel_rfl) (fun _ _ _ h => h) (Or.inl ⟨by rfl, ?_⟩) hHeld ?_
      rotate_left
      · intro W' hSw; (try dsimp only at hSw); go_simp; try (with_reducible rfl)
      (try simp only [Act.put, List.getElem_toArray, List.getElem_cons_zero, List.setIfInBounds_toArray, List.set_cons_zero, List.set_cons_succ])
      refine wpAnyH_take (i := 1) (v := ?_) rfl (by kernel_rfl) (by kernel_rfl) (by kernel_rfl) (fun _ _ _ h => h) (Or.inl ⟨by rfl, ?_⟩) hHeld ?_
      rotate_left
      · intro W' hSw; (try dsimp only at hSw); go_simp; try (with_reducible rfl)
      (try simp only [Act.put, List.getElem_toArray, List.getElem_cons_zero, List.getElem_cons_succ, List.setIfInBounds_toArray, List.set_cons_zero, List.set_cons_succ])
      refine wpAnyH_take (i := 2) (v := ?_) rfl (by kernel_rfl) (by kernel_rfl) (by kernel_rfl) (fun _ _ _ h => h) (Or.inl ⟨by rfl, ?_⟩) hHeld ?_
      rotate_left
      · intro W' hSw; (try dsimp only at hSw); go_simp; try (with_reducible rfl)
      (try simp only [Act.put, List.getElem_toArray, List.getElem_cons_zero, List.getElem_cons_succ, List.setIfInBounds_toArray, List.set_cons_zero, List.set_cons_succ])
      refine wpAnyH_take (i := 3) (v := ?_) rfl (by kernel_rfl) (by kernel_rfl) (by kernel_rfl) (fun _ _ _ h => h) (Or.inl ⟨by rfl, ?_⟩) hHeld ?_
      rotate_left
      · intro W' hSw; (try dsimp only at hSw); go_simp; try (with_reducible rfl)
      (try simp only [Act.put, List.getElem_toArray, List.getElem_cons_zero, List.getElem_cons_succ, List.setIfInBounds_toArray, List.set_cons_zero, List.set_cons_succ])
      refine wpAnyH_take (i := 4) (v := ?_) rfl (by kernel_rfl) (by kernel_rfl) (by kernel_rfl) (fun _ _ _ h => h) (Or.inl ⟨by rfl, ?_⟩) hHeld ?_
      rotate_left
      · intro W' hSw; (try dsimp only at hSw); go_simp; try (with_reducible rfl)
      (try simp only [Act.put, List.getElem_toArray, List.getElem_cons_zero, List.getElem_cons_succ, List.setIfInBounds_toArray, List.set_cons_zero, List.set_cons_succ])
      refine wpAnyH_take (i := 5) (v := ?_) rfl (by kernel_rfl) (by kernel_rfl) (by kernel_rfl) (fun _ _ _ h => h) (Or.inl ⟨by rfl, ?_⟩) hHeld ?_
      rotate_left
      · intro W' hSw; (try dsimp only at hSw); go_simp; try (with_reducible rfl)
      (try simp only [Act.put, List.getElem_toArray, List.getElem_cons_zero, List.getElem_cons_succ, List.setIfInBounds_toArray, List.set_cons_zero, List.set_cons_succ])
      refine wpAnyH_take (i := 6) (v := ?_) rfl (by kernel_rfl) (by kernel_rfl) (by kernel_rfl) (fun _ _ _ h => h) (Or.inl ⟨by rfl, ?_⟩) hHeld ?_
      rotate_left
      · intro W' hSw; (try dsimp only at hSw); go_simp; try (with_reducible rfl)
      (try simp only [Act.put, List.getElem_toArray, List.getElem_cons_zero, List.getElem_cons_succ, List.setIfInBounds_toArray, List.set_cons_zero, List.set_cons_succ])
      refine wpAnyH_take (i := 7) (v := ?_) rfl (by kernel_rfl) (by kernel_rfl) (by kernel_rfl) (fun _ _ _ h => h) (Or.inl ⟨by rfl, ?_⟩) hHeld ?_
      rotate_left
      · intro W' hSw; (try dsimp only at hSw); go_simp; try (with_reducible rfl)
      (try simp only [Act.put, List.getElem_toArray, List.getElem_cons_zero, List.getElem_cons_succ, List.setIfInBounds_toArray, List.set_cons_zero, List.set_cons_succ])
      refine wpAnyH_take (i := 8) (v := ?_) rfl (by kernel_rfl) (by kernel_rfl) (by kernel_rfl) (fun _ _ _ h => h) (Or.inl ⟨by rfl, ?_⟩) hHeld ?_
      rotate_left
      · intro W' hSw; (try dsimp only at hSw); go_simp; try (with_reducible rfl)
      (try simp only [Act.put, List.getElem_toArray, List.getElem_cons_zero, List.getElem_cons_succ, List.setIfInBounds_toArray, List.set_cons_zero, List.set_cons_succ])
      refine wpAnyH_take (i := 9) (v := ?_) rfl (by kernel_rfl) (by kernel_rfl) (by kernel_rfl) (fun _ _ _ h => h) (Or.inl ⟨by rfl, ?_⟩) hHeld ?_
      rotate_left
      · intro W' hSw; (try dsimp only at hSw); go_simp; try (with_reducible rfl)
      (try simp only [Act.put, List.getElem_toArray, List.getElem_cons_zero, List.getElem_cons_succ, List.setIfInBounds_toArray, List.set_cons_zero, List.set_cons_succ])
      refine wpAnyH_take (i := 10) (v := ?_) rfl (by kernel_rfl) (by kernel_rfl) (by kernel_rfl) (fun _ _ _ h => h) (Or.inl ⟨by rfl, ?_⟩) hHeld ?_
      rotate_left
      · intro W' hSw; (try dsimp only at hSw); go_simp; try (with_reducible rfl)
      (try simp only [Act.put, List.getElem_toArray, List.getElem_cons_zero, List.getElem_cons_succ, List.setIfInBounds_toArray, List.set_cons_zero, List.set_cons_succ])
      refine wpAnyH_take (i := 11) (v := ?_) rfl (by kernel_rfl) (by kernel_rfl) (by kernel_rfl) (fun _ _ _ h => h) (Or.inl ⟨by rfl, ?_⟩) hHeld ?_
      rotate_left
      · intro W' hSw; (try dsimp only at hSw); go_simp; try (with_reducible rfl)
      (try simp only [Act.put, List.getElem_toArray, List.getElem_cons_zero, List.getElem_cons_succ, List.setIfInBounds_toArray, List.set_cons_zero, List.set_cons_succ])
      refine wpAnyH_take (i := 13) (v := ?_) rfl (by kernel_rfl) (by kernel_rfl) (by kernel_rfl) (fun _ _ _ h => h) (Or.inl ⟨by rfl, ?_⟩) hHeld ?_
      rotate_left
      · intro W' hSw; (try dsimp only at hSw); go_simp; try (with_reducible rfl)
      (try simp only [Act.put, List.getElem_toArray, List.getElem_cons_zero, List.getElem_cons_succ, List.setIfInBounds_toArray, List.set_cons_zero, List.set_cons_succ])
      refine wpAnyH_ready (rs := [12, 14]) (by kernel_rfl) (by simp) ?_
      refine AllReadyH.cons rfl (fun K hK => ?_) (AllReadyH.cons rfl (fun K hK => ?_) AllReadyH.nil)
      · go_simp
        refine hK.out _ _ hd (fun hHeld => ?_)
        clear hK
        (try simp only [Act.put, List.getElem_toArray, List.getElem_cons_zero, List.getElem_cons_succ, List.setIfInBounds_toArray, List.set_cons_zero, List.set_cons_succ])
        refine wpAnyH_ready (rs := [14]) (by kernel_rfl) (by simp) ?_
        refine AllReadyH.cons rfl (fun K hK => ?_) AllReadyH.nil
        go_simp
        refine hK.out _ _ (FSA (.cells #[.string s, .int .i64 o, .bool f, .int .i64 p, .int .i64 b, .bool h] 130)) (fun hHeld => ?_)
        clear hK
        (try simp only [Act.put, List.getElem_toArray, List.getElem_cons_zero, List.getElem_cons_succ, List.setIfInBounds_toArray, List.set_cons_zero, List.set_cons_succ])
        refine wpAnyH_ready (rs := [15]) (by kernel_rfl) (by simp) ?_
        refine AllReadyH.cons rfl (fun K hK => ?_) AllReadyH.nil
        refine step_append_lies _ rfl _ _ 85 rfl w0.heap.size 130 i6 _ 6 56 Try.underlying85 H6.out.1 H6.out.2.1 H6.out.2.2.1 H6.out.2.2.2 rfl (by decide) (.slice none 0 0) 0 (itC (R ++ [(⟨s, [], .slice none 0 0⟩ : Gv)])[n].l) (by rfl) (FOW _) ⟨Z6.heap.size, 0, none⟩ 1 1 [.string s, .int .i64 o, .bool f, .int .i64 p, .int .i64 b, .bool h] (by rfl) (by rfl) (World.news_of_block (cs := #[.string s, .int .i64 o, .bool f, .int .i64 p, .int .i64 b, .bool h]) (heap_alloc_new Z6 _)) (by simp [Value.oneCell']) (by decide) HML.out.1 HML.out.2 (FBS _) (Z6.heap.size + 1) (by simp) ?_
        intro gg cap u3 hown hgrow hat hlt
        obtain ⟨hd3, e3, f3, hd4, HPT⟩ := HFN.out _ u3 gg cap hown hgrow hat
        refine hK.out _ _ hd3 (fun hHeld => ?_)
        clear hK
        (try simp only [Act.put, List.getElem_toArray, List.getElem_cons_zero, List.getElem_cons_succ, List.setIfInBounds_toArray, List.set_cons_zero, List.set_cons_succ])
        refine wpAnyH_take (i := 16) (v := ?_) rfl (by kernel_rfl) (by kernel_rfl) (by kernel_rfl) (fun _ _ _ h => h) (Or.inl ⟨by rfl, ?_⟩) hHeld ?_
        rotate_left
        · intro W' hSw; (try dsimp only at hSw); go_simp; try (with_reducible rfl)
        (try simp only [Act.put, List.getElem_toArray, List.getElem_cons_zero, List.getElem_cons_succ, List.setIfInBounds_toArray, List.set_cons_zero, List.set_cons_succ])
        refine wpAnyH_take (i := 17) (v := ?_) rfl (by kernel_rfl) (by kernel_rfl) (by kernel_rfl) (fun _ _ _ h => h) (Or.inl ⟨by rfl, ?_⟩) hHeld ?_
        rotate_left
        · intro W' hSw; (try dsimp only at hSw); go_simp; try (with_reducible rfl)
        (try simp only [Act.put, List.getElem_toArray, List.getElem_cons_zero, List.getElem_cons_succ, List.setIfInBounds_toArray, List.set_cons_zero, List.set_cons_succ])
        refine wpAnyH_ready (rs := [18]) (by kernel_rfl) (by simp) ?_
        refine AllReadyH.cons rfl (fun K hK => ?_) AllReadyH.nil
        go_simp
        refine hK.out _ _ hd4 (fun hHeld => ?_)
        clear hK
        (try simp only [Act.put, List.getElem_toArray, List.getElem_cons_zero, List.getElem_cons_succ, List.setIfInBounds_toArray, List.set_cons_zero, List.set_cons_succ])
        refine wpAnyH_done (by kernel_rfl) ?_ _
        have HPX := Lib.hid HPT
        clear HPT e3 f3 hd3 hd4 hHeld hown hgrow hat hlt
        go_wp2_with fail
        exact bodyPost_end (results_none Try.results70 _ _ _) rfl ⟨⟨_, rfl⟩, HPX.out⟩
      · go_simp
        have e12b := FCA (.cells #[.string s, .int .i64 o, .bool f, .int .i64 p, .int .i64 b, .bool h] 130)
        refine hK.out _ _ (FSA (.cells #[.string s, .int .i64 o, .bool f, .int .i64 p, .int .i64 b, .bool h] 130)) (fun hHeld => ?_)
        clear hK
        (try simp only [Act.put, List.getElem_toArray, List.getElem_cons_zero, List.getElem_cons_succ, List.setIfInBounds_toArray, List.set_cons_zero, List.set_cons_succ])
        refine wpAnyH_ready (rs := [12]) (by kernel_rfl) (by simp) ?_
        refine AllReadyH.cons rfl (fun K hK => ?_) AllReadyH.nil
        go_simp
        refine hK.out _ _ (FSA (.cells #[.string s, .int .i64 o, .bool f, .int .i64 p, .int .i64 b, .bool h] 130)) (fun hHeld => ?_)
        clear hK
        (try simp only [Act.put, List.getElem_toArray, List.getElem_cons_zero, List.getElem_cons_succ, List.setIfInBounds_toArray, List.set_cons_zero, List.set_cons_succ])
        refine wpAnyH_ready (rs := [15]) (by kernel_rfl) (by simp) ?_
        refine AllReadyH.cons rfl (fun K hK => ?_) AllReadyH.nil
        refine step_append_lies _ rfl _ _ 85 rfl w0.heap.size 130 i6 _ 6 56 Try.underlying85 H6.out.1 H6.out.2.1 H6.out.2.2.1 H6.out.2.2.2 rfl (by decide) (.slice none 0 0) 0 (itC (R ++ [(⟨s, [], .slice none 0 0⟩ : Gv)])[n].l) (by rfl) (FOW _) ⟨Z6.heap.size, 0, none⟩ 1 1 [.string s, .int .i64 o, .bool f, .int .i64 p, .int .i64 b, .bool h] (by rfl) (by rfl) (World.news_of_block (cs := #[.string s, .int .i64 o, .bool f, .int .i64 p, .int .i64 b, .bool h]) (heap_alloc_new Z6 _)) (by simp [Value.oneCell']) (by decide) HML.out.1 HML.out.2 (FBS _) (Z6.heap.size + 1) (by simp) ?_
        intro gg cap u3 hown hgrow hat hlt
        obtain ⟨hd3, e3, f3, hd4, HPT⟩ := HFN.out _ u3 gg cap hown hgrow hat
        refine hK.out _ _ hd3 (fun hHeld => ?_)
        clear hK
        (try simp only [Act.put, List.getElem_toArray, List.getElem_cons_zero, List.getElem_cons_succ, List.setIfInBounds_toArray, List.set_cons_zero, List.set_cons_succ])
        refine wpAnyH_take (i := 16) (v := ?_) rfl (by kernel_rfl) (by kernel_rfl) (by kernel_rfl) (fun _ _ _ h => h) (Or.inl ⟨by rfl, ?_⟩) hHeld ?_
        rotate_left
        · intro W' hSw; (try dsimp only at hSw); go_simp; try (with_reducible rfl)
        (try simp only [Act.put, List.getElem_toArray, List.getElem_cons_zero, List.getElem_cons_succ, List.setIfInBounds_toArray, List.set_cons_zero, List.set_cons_succ])
        refine wpAnyH_take (i := 17) (v := ?_) rfl (by kernel_rfl) (by kernel_rfl) (by kernel_rfl) (fun _ _ _ h => h) (Or.inl ⟨by rfl, ?_⟩) hHeld ?_
        rotate_left
        · intro W' hSw; (try dsimp only at hSw); go_simp; try (with_reducible rfl)
        (try simp only [Act.put, List.getElem_toArray, List.getElem_cons_zero, List.getElem_cons_succ, List.setIfInBounds_toArray, List.set_cons_zero, List.set_cons_succ])
        refine wpAnyH_ready (rs := [18]) (by kernel_rfl) (by simp) ?_
        refine AllReadyH.cons rfl (fun K hK => ?_) AllReadyH.nil
        go_simp
        refine hK.out _ _ hd4 (fun hHeld => ?_)
        clear hK
        (try simp only [Act.put, List.getElem_toArray, List.getElem_cons_zero, List.getElem_cons_succ, List.setIfInBounds_toArray, List.set_cons_zero, List.set_cons_succ])
        refine wpAnyH_done (by kernel_rfl) ?_ _
        have HPX := Lib.hid HPT
        clear HPT e3 f3 hd3 hd4 hHeld hown hgrow hat hlt
        go_wp2_with fail
        exact bodyPost_end (results_none Try.results70 _ _ _) rfl ⟨⟨_, rfl⟩, HPX.out⟩
end Go.Proofs.Ytniolkjeblocaaa

namespace Go.Proofs.Ytniolkjeblocaaa
open Go.RowKit Go.Shelf Go.Maps

attribute [local go_sem] Oper.semAt_some

theorem RowsAt.keepT {base B mb : Nat} {R : List Gv} {v : Value} {W W' : World} (h : RowsAt base B mb R v W) (hs : ∀ (q : Nat) (cs : Array Value) (t : TypeId) (f : Nat × Nat), (t = 87 ∨ t = 130) → W.heap[q]? = some (Obj.cells cs t f) → W'.heap[q]? = W.heap[q]?) : RowsAt base B mb R v W' :=
  ⟨ownsRow_atv h.own (fun g hg => by obtain ⟨cs, fr, e⟩ := own_type h.own hg; exact hs g cs _ fr (.inl rfl) e),
   fun i hi => ownsRow_atv (h.its i hi) (fun g hg => by obtain ⟨cs, fr, e⟩ := own_type (h.its i hi) hg; exact hs g cs _ fr (.inr rfl) e), h.vB, h.far, h.apart⟩
theorem RowsAt.down {base base' B mb : Nat} {R : List Gv} {v : Value} {W : World} (h : RowsAt base B mb R v W) (hb : base' ≤ base) : RowsAt base' B mb R v W := ⟨ownsRow_down h.own hb, fun i hi => ownsRow_down (h.its i hi) hb, h.vB, h.far, h.apart⟩
theorem TabAt.grown {w0 W W' : World} {B mb : Nat} {R : List Gv} {v : Value} {row : Option Nat} (h : TabAt w0 B mb R v W) (hg : W.grownBy W' row) (hr : ∀ r, row = some r → mb < r ∧ ∃ o : Obj, W.heap[r]? = some o ∧ o.isCells = false) : TabAt w0 B mb R v W' := by
  have hc : ∀ q cs t f, W.heap[q]? = some (Obj.cells cs t f) → W'.heap[q]? = W.heap[q]? := fun q cs t f e => hg.block q (Array.getElem?_eq_some_iff.1 e).1 (fun e2 => by
    obtain ⟨-, o, ho, hf⟩ := hr q e2.symm
    rw [e] at ho
    cases ho
    cases hf)
  obtain ⟨D, hm, hx⟩ := h.map
  refine ⟨(hc _ _ _ _ h.cell).trans h.cell, h.rows.keepT (fun q cs t f _ e => hc q cs t f e), ⟨D, ?_, hx⟩, h.low.trans (below_grown hg h.low.size (fun r e => by have := (hr r e).1; have := h.hmb; omega)), h.hB, h.hmb, h.ne, h.nod⟩
  obtain ⟨es, cl, hb', rest⟩ := hm
  exact ⟨es, cl, (hg.block mb (Array.getElem?_eq_some_iff.1 hb').1 (fun e => by have := (hr mb e.symm).1; omega)).trans hb', rest⟩
/-- the table, as it is read -/
def Tbl (W : World) (v : Value) (mb : Nat) (G : List Gp) : Prop := Shs W v G ∧ ∃ k D, W.ownsMap Try.prog 9 ixR mb k D ∧ IxAt (G.map (·.s)) D
theorem Tbl.next {W W' : World} {v : Value} {mb : Nat} {G : List Gp} (h : Tbl W v mb G) (hb : Below W.heap.size W W') : Tbl W' v mb G := by
  obtain ⟨h1, k, D, h2, h3⟩ := h
  exact ⟨h1.next hb, k, D, h2.kept (w' := W') (row := none) ⟨hb.os, hb.tape, hb.output, hb.size, fun k hk _ => hb.block k hk⟩ (by simp), h3⟩
/-- what a box holds of an item -/
def BoxR (W : World) (B : Nat) (x : Ri) : Prop := W.heap[B]? = some (.cells (riC x).toArray 130 (0, 0))
theorem boxR_own {B₀ : Nat} (B : Nat) (x : Ri) : OwnFrom B₀ (fun (_ : Unit) W => BoxR W B x) := fun _ W W' row h hg hr => by
  unfold BoxR at h ⊢
  refine (hg.block B (Array.getElem?_eq_some_iff.1 h).1 (fun e => ?_)).trans h
  obtain ⟨-, o, ho, hf⟩ := hr B e.symm
  rw [h] at ho
  cases ho
  cases hf
theorem grp_fit {xs : List Ri} {R : List Gv} {N : Nat} (h : R.map gOf = grp xs) (hN : xs.length + 1 ≤ N) (hT : N * 56 ≤ 140737488355328) : (R.length + 1) * 40 ≤ 140737488355328 ∧ ∀ i (hi : i < R.length), (R[i].l.length + 1) * 56 ≤ 140737488355328 := by
  have h1 : R.length = (namesU xs).length := by rw [← grp_names, ← h]; simp
  have h2 := namesU_le xs
  refine ⟨by omega, fun i hi => ?_⟩
  have h3 : (R.map gOf)[i]'(by simpa using hi) ∈ grp xs := by rw [← h]; exact List.getElem_mem _
  rw [List.getElem_map, grp_eq] at h3
  obtain ⟨s, hs, e⟩ := List.mem_map.1 h3
  have e2 : R[i].l = xs.filter (fun x => x.s == s) := (congrArg Gp.l e).symm
  have h4 : R[i].l.length ≤ xs.length := by rw [e2]; exact List.length_filter_le _ _
  omega
theorem allI_names (ms : List Md) (hok : ∀ m ∈ ms, MdOk m) : ∀ x ∈ allI ms ms.length, x.s.size < 9223372036854775808 := by
  intro x hx
  unfold allI at hx
  obtain ⟨l, hl, hxl⟩ := List.mem_flatten.1 hx
  obtain ⟨⟨m, i⟩, hp, rfl⟩ := List.mem_map.1 hl
  have hp2 := List.mem_of_mem_take hp
  have hm : m ∈ ms := by
    have := List.mem_zipIdx hp2
    simp at this
    obtain ⟨h1, h2⟩ := this
    rw [h2]
    exact List.getElem_mem _
  have ho := hok m hm
  unfold itemsOf at hxl
  rcases List.mem_append.1 hxl with h | h
  · obtain ⟨f, hf, rfl⟩ := List.mem_map.1 h
    exact (ho.1 f (List.mem_filter.1 hf).1).1
  · obtain ⟨g, hg, rfl⟩ := List.mem_map.1 h
    exact ho.2.1 g (List.mem_filter.1 hg).1
theorem wpListIn_store_row {F : Fence} {nF : Nat} {P : Program} {ops : Array Oper} {rest : List Oper} {o : Oper} {a : Act} {w : World} {Q : Exit → Act → World → Prop} (hgd : o.guard = none) (ty : TypeId) (x y : Operand) (ho : o.op = .store ty x y)
    (g : Nat) (cells : Array Value) (hx : a.eval x = .pointer (some ⟨g, 0, none⟩)) (hy : a.eval y = .agg cells)
    (t : TypeId) (old : Array Value) (hg : w.heap[g]? = some (.cells old t (0, 0))) (hi : (P.info? ty).map (·.size) = some cells.size)
    (hold : old.size = cells.size) (h1 : cells.all (·.oneCell') = true)
    (h : wpListIn F nF P ops Q rest (a.put o.dst undef) (w.setRow g cells)) : wpListIn F nF P ops Q (o :: rest) a w := by
  refine wpListIn_plain hgd fun K' hK' => ?_
  unfold Oper.wpIn
  refine ⟨by simp [Oper.about, ho], ?_⟩
  rw [Oper.semAt_plain F _ _ (by rw [ho]; intro c hc'; cases hc')]
  simp only [execOp, ho, hx, hy, Instr.storeAt, Instr.sureAddr, Sem.run_bind, Sem.run_pure, Result.andThen_ok, run_storeVar_row w g t ty old cells hg hi hold h1]
  exact hK' _ _ h
theorem tab_info : (Try.prog.info? 82).map (·.size) = some 2 := by kernel_rfl
set_option maxRecDepth 100000 in
set_option maxHeartbeats 8000000 in
theorem gather_any (ms : List Md) (A : Option Addr) (na ca : Nat) (w : World) (hna : ms.length = na) (hn9 : na ≤ 9223372036854775807) (hok : ∀ m ∈ ms, MdOk m) (hT : ((allI ms ms.length).length + 1) * 56 ≤ 140737488355328) (hS : Mods w (.slice A na ca) ms) :
    Calls Try.prog 46 #[.slice A na ca] w fun e w' => ∃ v mb, e = .returned (.agg #[v, .map (some mb)]) ∧ Tbl w' v mb (grp (allI ms ms.length)) ∧ Below w.heap.size w w' := by
  have HOK := Lib.hid hok
  have HNA := Lib.hid hna
  have HN9 := Lib.hid hn9
  have HTT := Lib.hid hT
  have HS := Lib.hid hS
  clear hok hna hn9 hT hS
  refine (callsIn_wide (n := 3)).1 ?_
  refine callsIn_of_wp_marks Try.func46 rfl trivial ?_ rfl
  simp only [Try.ntmps46, List.size_toArray, List.length_cons, List.length_nil, Nat.reduceAdd, Nat.reduceSub, Array.replicate_succ, Array.replicate_zero, List.push_toArray, List.append_toArray, List.nil_append, List.cons_append]
  have hmm := @run_makeMap Try.prog
  gi_wp2_with (fail)
  clear hmm
  refine ⟨trivial, ?_⟩
  refine (items_in 2 _ _ _ _).mono ?_
  rintro e w1 ⟨rfl, rfl⟩
  gi_wp2_with (fail)
  obtain ⟨A1, hA1⟩ : ∃ A1, w.alloc (.cells #[.slice none 0 0, .map none] 82) = A1 := ⟨_, rfl⟩
  have hz1 : A1.heap.size = w.heap.size + 1 := by rw [← hA1]; simp
  have hbw : Below w.heap.size w A1 := hA1 ▸ balloc (Below.refl _ w) _
  have hR0 : A1.heap[w.heap.size]? = some (.cells #[.slice none 0 0, .map none] 82 (0, 0)) := by rw [← hA1]; exact heap_alloc_new _ _
  have HOM := World.ownsMap_made A1 Try.prog 9 ixR
  rw [hz1] at HOM
  rw [hA1]
  clear hA1
  obtain ⟨A2, hA2⟩ : ∃ A2, A1.alloc (.map #[] 0) = A2 := ⟨_, rfl⟩
  have hz2 : A2.heap.size = w.heap.size + 1 + 1 := by rw [← hA2, World.size_alloc, hz1]
  have hb2 : Below A1.heap.size A1 A2 := hA2 ▸ balloc (Below.refl _ A1) _
  rw [hA2] at HOM ⊢
  clear hA2
  obtain ⟨A3, hA3⟩ : ∃ A3, A2.alloc (.cells #[.slice none 0 0, .map (some (w.heap.size + 1))] 82) = A3 := ⟨_, rfl⟩
  have hz3 : A3.heap.size = w.heap.size + 1 + 1 + 1 := by rw [← hA3, World.size_alloc, hz2]
  have hb3 : Below A2.heap.size A2 A3 := hA3 ▸ balloc (Below.refl _ A2) _
  have hB3 : A3.heap[w.heap.size + 1 + 1]? = some (.cells #[.slice none 0 0, .map (some (w.heap.size + 1))] 82 (0, 0)) := by rw [← hA3, ← hz2]; exact heap_alloc_new _ _
  rw [hA3]
  clear hA3
  obtain ⟨A4, hA4⟩ : ∃ A4, A3.alloc (.cells #[.slice A na ca] 28) = A4 := ⟨_, rfl⟩
  have hz4 : A4.heap.size = w.heap.size + 1 + 1 + 1 + 1 := by rw [← hA4, World.size_alloc, hz3]
  have hb4 : Below A3.heap.size A3 A4 := hA4 ▸ balloc (Below.refl _ A3) _
  have hFn : A4.cell? ⟨w.heap.size + 1 + 1 + 1, 0, none⟩ = some (.slice A na ca) := by
    have h := heap_alloc_new A3 (.cells #[.slice A na ca] 28)
    rw [hA4, hz3] at h
    exact Lib.cell_of_heap h 0
  rw [hA4]
  clear hA4
  have hb24 := bthen hb3 hb4
  have hb14 := bthen hb2 hb24
  have T0 : TabAt A1 (w.heap.size + 1 + 1) (w.heap.size + 1) [] (.slice none 0 0) A4 :=
    ⟨(hb4.block _ (by omega)).trans hB3, ⟨World.ownsRow_nil _ _ _ _, fun i hi => by simp at hi, ⟨by simp [Value.ownBlock], by simp [Value.ownBlock]⟩, fun i hi => by simp at hi, fun i j hi => by simp at hi⟩,
      ⟨_, HOM.kept (w' := A4) (row := none) ⟨hb24.os, hb24.tape, hb24.output, hb24.size, fun k hk _ => hb24.block k hk⟩ (by simp), ixAt_nil⟩, hb14, by omega, by omega, by omega, by simp⟩
  have HBW := Lib.hid hbw
  have HR0 := Lib.hid hR0
  have HZ1 := Lib.hid (show w.heap.size + 1 ≤ A1.heap.size ∧ A1.heap.size ≤ w.heap.size + 1 by omega)
  have HZ4 := Lib.hid (show w.heap.size + 1 + 1 + 1 + 1 ≤ A4.heap.size by omega)
  have HNM := Lib.hid (allI_names ms HOK.out)
  clear hz2 hz3 hb2 hb3 hb4 hB3 HOM hbw hR0 hb24
  refine wpIn_rangeFunc_ownH (α := {x : Ri // x.s.size < 9223372036854775808}) rfl (by omega) (gf := 86) (lb := #[.pointer (some ⟨w.heap.size + 1 + 1 + 1, 0, none⟩)]) rfl trivial (enters_of Try.func86 (by kernel_rfl) rfl)
    (items_stops 2 (by omega) (w.heap.size + 1 + 1 + 1) na ca A ms _ HNM.out A1 A4 HNA.out HN9.out HOK.out (HS.out.next HBW.out) hb14 hFn) KeepM.trans (keepM_b hb14.size) (Below.refl _ _) (fun _ => rfl)
    (fun pre W => ∃ R v, TabAt A1 (w.heap.size + 1 + 1) (w.heap.size + 1) R v W ∧ R.map gOf = grp (pre.map Subtype.val))
    (fun _ _ _ => False)
    (fun s X Y row h hg hr => by obtain ⟨R, v, T, e⟩ := h; exact ⟨R, v, T.grown hg (fun r e => ⟨by have := (hr r e).1; have := HZ4.out; omega, (hr r e).2⟩), e⟩)
    (fun _ _ _ _ _ hs _ _ => hs)
    ⟨[], _, T0, rfl⟩
    (fun x a' W => ∃ Bx, BoxR W Bx x.1 ∧ a' = { tmps := #[.slice A na ca, undef, .pointer (some ⟨w.heap.size, 0, none⟩), .pointer (some ⟨w.heap.size + 1 + 1, 0, none⟩), .pointer (some ⟨Bx, 0, none⟩), .map (some (w.heap.size + 1)), .agg #[.slice none 0 0, .map (some (w.heap.size + 1))], .slice A na ca, .func (.func 86) #[] #[.pointer (some ⟨w.heap.size + 1 + 1 + 1, 0, none⟩)], riV x.1, undef, undef, undef], defers := [] })
    (fun x a' s X Y row hs hg hr => by obtain ⟨Bx, h1, h2⟩ := hs; exact ⟨Bx, boxR_own Bx x.1 () X Y row h1 hg hr, h2⟩)
    ?assign ?body ?done ?stop
  case assign =>
    rintro l pre x W K ⟨R, v, T, e⟩ hK
    have HK := Lib.hid hK
    clear hK
    have HX := Lib.hid T
    clear T
    obtain ⟨⟨s, o, f, p, b, h⟩, hx⟩ := x
    simp only [riV]
    gi_wp2
    exact HK.out _ _ ((KeepsOthers.alloc _ _).from _) (KeepM.below HX.out.low.size (balloc (Below.refl _ _) _)) ⟨R, v, HX.out.quiet (balloc (Below.refl _ _) _), e⟩ ⟨W.heap.size, heap_alloc_new _ _, rfl⟩
  case body =>
    rintro l pre x a' W hl hr ⟨R, v, T, e⟩ ⟨Bx, bx, rfl⟩ hlen
    obtain ⟨hR, hI⟩ := grp_fit e (N := (allI ms ms.length).length + 1) (by rw [List.length_map]; omega) HTT.out
    have HP := Lib.hid (put_any A1 W (w.heap.size + 1 + 1) (w.heap.size + 1) R v x.1 T x.2 hR hI)
    have HE := Lib.hid (show putG (R.map gOf) x.1 = grp ((pre ++ [x]).map Subtype.val) by rw [e, List.map_append]; exact (grp_snoc _ _).symm)
    have c0 := Lib.cell_of_heap bx 0
    have c1 := Lib.cell_of_heap bx 1
    have c2 := Lib.cell_of_heap bx 2
    have c3 := Lib.cell_of_heap bx 3
    have c4 := Lib.cell_of_heap bx 4
    have c5 := Lib.cell_of_heap bx 5
    obtain ⟨y, hy⟩ : ∃ y, x.1 = y := ⟨_, rfl⟩
    rw [hy] at HP HE c0 c1 c2 c3 c4 c5 ⊢
    obtain ⟨s, o, f, p, b, h⟩ := y
    unfold riV at HP ⊢
    simp only [riC, List.getElem?_toArray, List.getElem?_cons_zero, List.getElem?_cons_succ] at c0 c1 c2 c3 c4 c5 HP ⊢
    clear T e bx hlen hR hI hy hr hl
    gi_wp2_with (fail)
    refine ⟨trivial, ?_⟩
    refine (CallsIn.inRound l (callsIn_wide.2 HP.out)).mono ?_
    rintro e w1 ⟨⟨u, rfl⟩, R', v', T', e', k'⟩
    gi_wp2_with (fail)
    exact ⟨⟨k'.f.size, fun k o hk => k'.f.same k o (by have := HZ4.out; omega)⟩, ⟨k'.m.low.mono (Nat.le_refl _), k'.m.same⟩, R', v', T', e'.trans HE.out⟩
  case done =>
    rintro D ys W hD hys ⟨R, v, T, e⟩ hK
    have HT := Lib.hid T
    have hB := T.cell
    have q0 := Lib.cell_of_heap hB 0
    have q1 := Lib.cell_of_heap hB 1
    have HW0 := Lib.hid (show W.heap[w.heap.size]? = some (.cells #[.slice none 0 0, .map none] 82 (0, 0)) from (T.low.block _ (by have := HZ1.out; omega)).trans HR0.out)
    have HV1 := Lib.hid (show (#[v, .map (some (w.heap.size + 1))] : Array Value).all (·.oneCell') = true by
      obtain ⟨A9, c9, e9⟩ := ownsRow_slice T.rows.own
      rw [e9]
      simp [Value.oneCell'])
    simp only [List.getElem?_toArray, List.getElem?_cons_zero, List.getElem?_cons_succ] at q0 q1
    have HE := Lib.hid (show R.map gOf = grp (allI ms ms.length) by rw [e, hys])
    have HKD := Lib.hid hK
    have HDD := Lib.hid hD
    clear T hB hK hD e
    gi_wp2_with (refine wpListIn_store_row rfl _ _ _ rfl w.heap.size #[v, .map (some (w.heap.size + 1))] rfl rfl _ _ HW0.out tab_info rfl HV1.out ?_)
    have oth : ∀ k : Nat, k ≠ w.heap.size → (W.setRow w.heap.size #[v, .map (some (w.heap.size + 1))]).heap[k]? = W.heap[k]? := fun k hk => by
      unfold World.setRow
      simp [Array.getElem?_modify, Ne.symm hk]
    have hKs : (W.setRow w.heap.size #[v, .map (some (w.heap.size + 1))]).heap[D]? = some (.deferred (some [])) := (oth D (by have := HDD.out; have := HZ4.out; omega)).trans HKD.out
    have hRs := setRow_heap W w.heap.size #[.slice none 0 0, .map none] #[v, .map (some (w.heap.size + 1))] _ _ HW0.out
    have hlow : Below w.heap.size w (W.setRow w.heap.size #[v, .map (some (w.heap.size + 1))]) := (HBW.out.trans (HT.out.low.mono HBW.out.size)).trans (show Below w.heap.size W _ from ⟨rfl, rfl, rfl, by simp [World.setRow], fun k hk => oth k (Nat.ne_of_lt hk)⟩)
    have hTs : TabAt w (w.heap.size + 1 + 1) (w.heap.size + 1) R v (W.setRow w.heap.size #[v, .map (some (w.heap.size + 1))]) := by
      obtain ⟨D2, hm, hx⟩ := HT.out.map
      refine ⟨(oth _ (by omega)).trans HT.out.cell, (HT.out.rows.down HBW.out.size).keepT (fun q cs t f ht e => oth q (fun e2 => ?_)), ⟨D2, ?_, hx⟩, hlow, by omega, by omega, HT.out.ne, HT.out.nod⟩
      · rw [e2, HW0.out] at e
        cases e
        rcases ht with h | h <;> exact absurd h (by decide)
      · obtain ⟨es, cl, hb', rest⟩ := hm
        exact ⟨es, cl, (oth _ (by omega)).trans hb', rest⟩
    refine ⟨by simp, .inl ⟨_, _, rfl, run_takeDeferred hKs, ?_⟩⟩
    have hg := grownBy_putObj' (W.setRow w.heap.size #[v, .map (some (w.heap.size + 1))]) D (.deferred none)
    have hT9 := hTs.grown hg (fun r e => by cases e; exact ⟨by have := HDD.out; have := HZ4.out; omega, _, hKs, rfl⟩)
    have hR9 := (hg.block w.heap.size (Array.getElem?_eq_some_iff.1 hRs).1 (fun e => by have := Option.some.inj e; have := HDD.out; have := HZ4.out; omega)).trans hRs
    refine ⟨_, results_cell_row Try.results46 _ _ w.heap.size _ #[v, .map (some (w.heap.size + 1))] _ _ rfl hR9 Try.underlying82 rfl tab_info, v, w.heap.size + 1, rfl, ⟨?_, ?_⟩, hlow.trans (below_grown hg hlow.size (fun r e => by cases e; have := HDD.out; have := HZ4.out; omega))⟩
    · rw [← HE.out]
      exact hT9.rows.shs
    · obtain ⟨D2, hm, hx⟩ := hT9.map
      refine ⟨_, D2, hm, ?_⟩
      rw [← HE.out, List.map_map]
      exact hx
  case stop =>
    rintro D c pre W _ _ h _
    exact h.elim
end Go.Proofs.Ytniolkjeblocaaa
