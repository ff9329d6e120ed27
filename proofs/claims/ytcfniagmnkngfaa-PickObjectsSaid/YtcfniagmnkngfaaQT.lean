/- PickObjects: where there are no archives, all objects are taken, as they are: the walk. -/
import Derived.Test.YtcfniagmnkngfaaQS
import Derived.Test.YtcfniagmnkngfaaQ8
namespace Go.Proofs.Ytcfniagmnkngfaa
open Go.RowKit

def modsOf (l : List Fl) : List Md := (l.map (·.m)).flatten
theorem modsOf_take {l : List Fl} {i : Nat} (hi : i < l.length) : modsOf (l.take (i + 1)) = modsOf (l.take i) ++ l[i].m := by
  unfold modsOf
  rw [List.take_succ_eq_append_getElem hi, List.map_append, List.flatten_append]
  simp
theorem flat_objs {l : List Fl} (h : ∀ f ∈ l, f.a = false) : objs (flat l) = modsOf l := by
  induction l with
  | nil => rfl
  | cons f l ih =>
    have h1 := h f (by simp)
    have h2 := ih (fun g hg => h g (by simp [hg]))
    have e : flat (f :: l) = f.m.map (fun m => (f.a, m)) ++ flat l := rfl
    have e2 : modsOf (f :: l) = f.m ++ modsOf l := rfl
    rw [e, e2, ← h2, h1]
    unfold objs
    rw [List.filter_append, List.map_append]
    congr 1
    simp [List.filter_eq_self.2, Function.comp_def]
theorem taken_objs {l : List Fl} (h : ∀ f ∈ l, f.a = false) : Taken (flat l) (modsOf l) := by
  refine ⟨begT (flat l), .refl, fun k hk => .inl ?_, flat_objs h⟩
  obtain ⟨i, j, hi, hj, rfl⟩ := off_of hk
  rw [begT_at hi hj, h _ (List.getElem_mem hi)]
  rfl
theorem modsOf_len {l : List Fl} (h : ∀ f ∈ l, f.m.length = 1) : (modsOf l).length = l.length := by
  induction l with
  | nil => rfl
  | cons f l ih =>
    have e2 : modsOf (f :: l) = f.m ++ modsOf l := rfl
    rw [e2, List.length_append, ih (fun g hg => h g (by simp [hg])), h f (by simp), List.length_cons]
    omega
/-- how large a row of modules grows by one -/
theorem grows_one {n cap : Nat} (h : n ≤ 4398046511104) (h1 : n ≤ cap) (h2 : cap < n + 1) : Builtin.nextslicecap (n + 1) cap * 48 ≤ 281474976710656 := by
  obtain rfl : cap = n := by omega
  by_cases hs : cap ≤ 1000000
  · exact growslice_fits (by omega) (by omega)
  · unfold Builtin.nextslicecap
    rw [if_neg (by omega), if_neg (by omega)]
    have e : Builtin.growBy (cap + 1) 4 cap = cap + (cap + 768) / 4 := by
      unfold Builtin.growBy
      rw [if_neg (by omega)]
      unfold Builtin.growBy
      rw [if_pos (by omega)]
    rw [e]
    omega
section
variable {P : Program} (w : World)
/-- append of one onto a row of the call's own that isn't empty: what it asks is the room alone -/
theorem run_append_tight (base : Nat) (t ty e : TypeId) (i : TypeInfo) (z : Value) (ht : P.underlying t = some (.slice e)) (hi : P.info? e = some i) (hz : i.zero = some z) (hzs : z.cells.size = i.size)
    (v : Value) (n : Nat) (xs : List Value) (hown : w.ownsRow base e i.size v n xs) (hn : 0 < n) (ad : Addr) (c : Nat) (news : List Value) (hl : news.length = i.size) (hnews : ∀ j u, news[j]? = some u → w.cell? (ad.add j) = some u) (h1 : ∀ u ∈ news, u.oneCell' = true)
    (h63 : n + 1 ≤ maxLen) (hfit : ∀ cap, n ≤ cap → cap < n + 1 → Builtin.nextslicecap (n + 1) cap * i.bytes ≤ 281474976710656) (hbase : base ≤ w.heap.size) :
    ∃ v' w', (Builtin.append_ #[t, t] ty #[v, .slice (some ad) 1 c]).run P w = .ok v' w' ∧ w'.ownsRow base e i.size v' (n + 1) (xs ++ news) ∧ w.grownBy w' v.ownBlock := by
  have hl1 : news.length = 1 * i.size := by omega
  have hlen : (xs ++ news).length = (n + 1) * i.size := by rw [List.length_append, hown.1, hl1, ← Nat.add_mul]
  obtain ⟨hx, hcase⟩ := hown
  rcases hcase with ⟨-, h0⟩ | ⟨g, cap, cur, rfl, hbg, hg, hnc, hcm, hcs, htake⟩
  · omega
  by_cases hroom : n + 1 ≤ cap
  · have hfit2 : n * i.size + news.length ≤ cur.size := by rw [hl1, hcs, ← Nat.add_mul]; exact Nat.mul_le_mul_right _ hroom
    refine ⟨_, _, run_append_room (P := P) w t ty e i ht hi g n cap cur hg ad 1 c news hl1 hnews h1 hroom hfit2, ⟨hlen, .inr ⟨g, cap, _, rfl, hbg, setRow_heap w g cur _ e _ hg, hroom, hcm, ?_, ?_⟩⟩, ⟨rfl, rfl, rfl, by simp, fun k _ hk => setRow_other w g k _ (fun e => hk (by simp [Value.ownBlock, e]))⟩⟩
    · simp only [List.size_toArray, List.length_append, List.length_take, List.length_drop, Array.length_toList]
      omega
    · rw [htake, ← hlen]
      exact List.take_left
  · have hm9 : n + 1 ≤ 9223372036854775807 := by simp only [maxLen] at h63; omega
    have hat : ∀ j u, xs[j]? = some u → w.cell? ((⟨g, 0, none⟩ : Addr).add j) = some u := World.ownsRow.cells (g := g) (v := .slice (some ⟨g, 0, none⟩) n cap) (n := n) (base := base) (e := e) (size := i.size) ⟨hx, .inr ⟨g, cap, cur, rfl, hbg, hg, hnc, hcm, hcs, htake⟩⟩ rfl
    have hge := grownCap_ge w (n + 1) cap e
    refine ⟨_, _, run_append_grow (P := P) w t ty e i z ht hi hz ⟨g, 0, none⟩ n cap xs hx hat ad 1 c news hl1 hnews (by omega) (by omega) (hfit cap hnc (by omega)), ⟨hlen, .inr ⟨w.heap.size, _, _, rfl, hbase, heap_alloc_new w.drew _, hge, grownCap_le_maxLen w (n + 1) cap e h63, ?_, ?_⟩⟩, ⟨rfl, rfl, rfl, by simp, fun k hk _ => heap_alloc_old w.drew _ k hk⟩⟩
    · simp only [Array.size_append, List.size_toArray, size_zeroCells, hzs, hx, hl1, ← Nat.add_mul]
      congr 1
      omega
    · simp only [Array.toList_append, List.append_assoc]
      rw [← List.append_assoc, ← hlen]
      exact List.take_left
end
theorem wpList_append_modB {W u : World} {ops : Array Oper} {rest : List Oper} {o : Oper} {a : Act} {Q : Exit → Act → World → Prop} (hgd : o.guard = none) (s x : Operand)
    (ho : o.op = .call { callee := .builtin .append, args := #[s, x], argTypes := #[42, 42] }) (w : World) (v : Value) (r : List Md) (m : Md) (F G : Option Addr) (cf cg nf ng H : Nat) (hs : a.eval s = v) (hx : a.eval x = .slice (some ⟨H, 0, none⟩) 1 1)
    (hH : u.heap.size = H) (hW : W = u.alloc (.cells #[.slice F nf cf, .slice G ng cg] 25)) (hnf : m.f.length = nf) (hng : m.g.length = ng) (hO : OutIn w v r u) (hm : ∀ U, Below w.heap.size w U → MdAt U (.slice F nf cf) (.slice G ng cg) m) (hn : r.length ≤ 4398046511104) (hb : Below w.heap.size w u)
    (h : ∀ v' w', OutIn w v' (r ++ [m]) w' → Below w.heap.size w w' → wpList Try.prog ops Q rest (a.put o.dst v') w') : wpList Try.prog ops Q (o :: rest) a W := by
  have hbW : Below w.heap.size w W := by rw [hW]; exact bthen hb (balloc (Below.refl _ u) _)
  subst hH hW hnf hng
  obtain ⟨ys, ho1, hys⟩ := hO
  obtain ⟨i0, hi0, hz0, hz1, hz2⟩ := info_parts mdl_info
  have hl : ys.length = r.length * 2 := ho1.1
  have key : ∀ v' w', w'.ownsRow w.heap.size 25 2 v' (r.length + 1) (ys ++ [.slice F m.f.length cf, .slice G m.g.length cg]) → (u.alloc (.cells #[.slice F m.f.length cf, .slice G m.g.length cg] 25)).grownBy w' v.ownBlock → wpList Try.prog ops Q rest (a.put o.dst v') w' := by
    intro v' w2 hown hgrow
    refine h _ w2 ⟨_, by rw [List.length_append]; exact hown, fun j hj => ?_⟩ (hbW.grown hgrow hbW.size (fun q hq => (ho1.lt q hq).1))
    by_cases hjl : j < r.length
    · rw [List.getElem_append_left hjl]
      obtain ⟨F', cf', G', cg', h0, h1, h2⟩ := hys j hjl
      exact ⟨F', cf', G', cg', by rw [List.getElem?_append_left (by omega)]; exact h0, by rw [List.getElem?_append_left (by omega)]; exact h1, h2⟩
    · have hj1 : j = r.length := by simp at hj; omega
      subst hj1
      rw [List.getElem_concat_length]
      · exact ⟨F, cf, G, cg, by rw [List.getElem?_append_right (by omega), hl, Nat.sub_self]; rfl, by rw [List.getElem?_append_right (by omega), hl, Nat.add_sub_cancel_left]; rfl, hm⟩
      · rfl
  have hnw := World.news_of_block (cs := #[.slice F m.f.length cf, .slice G m.g.length cg]) (heap_alloc_new u (.cells #[.slice F m.f.length cf, .slice G m.g.length cg] 25))
  by_cases hsm : r.length ≤ 1000000
  · exact wpList_append_own _ hgd s x 42 ho w.heap.size 25 i0 _ 2 48 Try.underlying42 hi0 hz0 hz1 hz2 rfl (by decide) v r.length ys hs (ho1.alloc _) ⟨u.heap.size, 0, none⟩ 1 1 [.slice F m.f.length cf, .slice G m.g.length cg] hx rfl hnw (by simp [Value.oneCell']) (by unfold maxLen; omega) (by omega) hbW.size (fun v' w' h1 h2 _ => key v' w' h1 h2)
  · refine wpList_plain hgd fun K hK => ?_
    obtain ⟨v', w', hr, h2, h3⟩ := run_append_tight (P := Try.prog) (u.alloc (.cells #[.slice F m.f.length cf, .slice G m.g.length cg] 25)) w.heap.size 42 o.type 25 i0 _ Try.underlying42 hi0 hz0 (by rw [hz1]; rfl) v r.length ys (by rw [hz1]; exact ho1.alloc _) (by omega) ⟨u.heap.size, 0, none⟩ 1 [.slice F m.f.length cf, .slice G m.g.length cg] (by rw [hz1]; rfl) hnw (by simp [Value.oneCell']) (by unfold maxLen; omega) (fun cap h1 h2 => by rw [hz2]; exact grows_one hn h1 h2) hbW.size
    unfold Oper.wp execOp
    simp only [ho, resolve, invoke, builtin, Sem.run_bind, Sem.run_pure, Result.andThen_ok, List.map_toArray, List.map_cons, List.map_nil, hs, hx, hr]
    exact hK _ _ (key v' w' (by rw [hz1] at h2; exact h2) h3)
end Go.Proofs.Ytcfniagmnkngfaa
