/- The reference of package pick: Take, of any files. Package pick: rows of files as arguments. -/
import Derived.Test.YtcfniagmnkngfaaRD
import Derived.Test.YtcfniagmnkngfaaQ6
import Derived.Test.YtcfniagmnkngfaaQ9
namespace Go.Proofs.Ytcfniagmnkngfaa
open Go.RowKit

/-- a row of modules of the call's own; what they hold lay there when it began -/
def OutIn (w : World) (v : Value) (r : List Md) (W : World) : Prop := ∃ ys, W.ownsRow w.heap.size 25 2 v r.length ys ∧ ∀ (j : Nat) (hj : j < r.length), MdYs (Below w.heap.size w) ys j r[j]
theorem OutIn.next {w : World} {v : Value} {r : List Md} {W W' : World} (h : OutIn w v r W) (hs : ∀ g, v.ownBlock = some g → W'.heap[g]? = W.heap[g]?) : OutIn w v r W' := by
  obtain ⟨ys, ho, h⟩ := h
  exact ⟨ys, ownsRow_atv ho hs, h⟩
theorem OutIn.below {w : World} {v : Value} {r : List Md} {W W' : World} (h : OutIn w v r W) (hb : Below W.heap.size W W') : OutIn w v r W' :=
  h.next (fun g hg => by obtain ⟨ys, ho, -⟩ := h; exact hb.block g (ho.lt g hg).2)
theorem OutIn.slice {w : World} {v : Value} {r : List Md} {W : World} (h : OutIn w v r W) : ∃ A c, v = .slice A r.length c := by
  obtain ⟨ys, ho, -⟩ := h
  exact ownsRow_slice ho
theorem OutIn.mods {w : World} {v : Value} {r : List Md} {W : World} (h : OutIn w v r W) (hb : Below w.heap.size w W) : Mods W v r := by
  obtain ⟨ys, ho, h⟩ := h
  by_cases hl : 0 < r.length
  · obtain ⟨g, cap, e, -, hlt⟩ := ho.form hl
    subst e
    refine .inr ⟨hl, g, 0, cap, rfl, hlt, fun i hi => ?_⟩
    obtain ⟨F, cf, G, cg, h0, h1, h2⟩ := h i hi
    have q : ∀ c, c < 2 → W.cell? ⟨g, 0 + i * 2 + c, none⟩ = ys[i * 2 + c]? := fun c hc => by rw [Nat.zero_add]; exact ho.cellAt _ (by omega)
    exact ⟨F, cf, G, cg, (q 0 (by omega)).trans h0, (q 1 (by omega)).trans h1, h2 W hb⟩
  · have hl0 : r = [] := by cases r <;> simp_all
    subst hl0
    rcases ho.2 with ⟨e, _⟩ | ⟨g, cap, cur, e, _⟩
    · exact .inl ⟨rfl, .inl e⟩
    · exact .inl ⟨rfl, .inr ⟨_, _, e⟩⟩
/-- append of one module -/
theorem wpList_append_mod {W u : World} {ops : Array Oper} {rest : List Oper} {o : Oper} {a : Act} {Q : Exit → Act → World → Prop} (hgd : o.guard = none) (s x : Operand)
    (ho : o.op = .call { callee := .builtin .append, args := #[s, x], argTypes := #[42, 42] }) (w : World) (v : Value) (r : List Md) (m : Md) (F G : Option Addr) (cf cg nf ng H : Nat) (hs : a.eval s = v) (hx : a.eval x = .slice (some ⟨H, 0, none⟩) 1 1)
    (hH : u.heap.size = H) (hW : W = u.alloc (.cells #[.slice F nf cf, .slice G ng cg] 25)) (hnf : m.f.length = nf) (hng : m.g.length = ng) (hO : OutIn w v r u) (hm : ∀ U, Below w.heap.size w U → MdAt U (.slice F nf cf) (.slice G ng cg) m) (hn : r.length ≤ 1000) (hb : w.heap.size ≤ u.heap.size)
    (h : ∀ v' w', OutIn w v' (r ++ [m]) w' → W.grownBy w' v.ownBlock → (∀ g, v'.ownBlock = some g → v.ownBlock = some g ∨ g = H + 1) → wpList Try.prog ops Q rest (a.put o.dst v') w') : wpList Try.prog ops Q (o :: rest) a W := by
  subst hH hW hnf hng
  obtain ⟨ys, ho1, hys⟩ := hO
  obtain ⟨i0, hi0, hz0, hz1, hz2⟩ := info_parts mdl_info
  refine wpList_append_lies _ hgd s x 42 ho w.heap.size 25 i0 _ 2 48 Try.underlying42 hi0 hz0 hz1 hz2 rfl (by decide) v r.length ys hs (ho1.alloc _) ⟨u.heap.size, 0, none⟩ 1 1 [.slice F m.f.length cf, .slice G m.g.length cg] hx rfl (World.news_of_block (cs := #[.slice F m.f.length cf, .slice G m.g.length cg]) (heap_alloc_new u _)) (by simp [Value.oneCell']) (by decide) (by unfold maxLen; omega) (by omega) (by simp; omega) (u.heap.size + 1) (by simp) ?_
  intro gg cap w2 hown hgrow hat hlt
  refine h _ w2 ⟨ys ++ [.slice F m.f.length cf, .slice G m.g.length cg], by rw [List.length_append]; exact hown, fun j hj => ?_⟩ hgrow (fun g hg => by
    have : gg = g := by simpa [Value.ownBlock] using hg
    subst this
    exact hat)
  have hl : ys.length = r.length * 2 := ho1.1
  by_cases hjl : j < r.length
  · rw [List.getElem_append_left hjl]
    obtain ⟨F', cf', G', cg', h0, h1, h2⟩ := hys j hjl
    exact ⟨F', cf', G', cg', by rw [List.getElem?_append_left (by omega)]; exact h0, by rw [List.getElem?_append_left (by omega)]; exact h1, h2⟩
  · have hj1 : j = r.length := by simp at hj; omega
    subst hj1
    rw [List.getElem_concat_length]
    · exact ⟨F, cf, G, cg, by rw [List.getElem?_append_right (by omega), hl, Nat.sub_self]; rfl, by rw [List.getElem?_append_right (by omega), hl, Nat.add_sub_cancel_left]; rfl, hm⟩
    · rfl
/-- which ones are had -/
def HadAt (l : List Fl) (Hb : Nat) (t : Nat → Bool) (W : World) : Prop :=
  ∃ hs : Array Value, W.heap[Hb]? = some (.cells hs 111 (0, 0)) ∧ hs.size = 128 ∧ (∀ j, j < 128 → ∃ b, hs[j]? = some (.bool b)) ∧ ∀ (i k : Nat) (hi : i < l.length), k < l[i].m.length → l[i].a = true → hs[i * 16 + k]? = some (.bool (t (offL l i + k)))
theorem HadAt.next {l : List Fl} {Hb : Nat} {t : Nat → Bool} {W W' : World} (h : HadAt l Hb t W) (hs : W'.heap[Hb]? = W.heap[Hb]?) : HadAt l Hb t W' := by
  obtain ⟨hs', h1, r⟩ := h
  exact ⟨hs', hs.trans h1, r⟩
theorem HadAt.put {l : List Fl} {Hb : Nat} {t : Nat → Bool} {W : World} (g : Good l) (h : HadAt l Hb t W) {i k : Nat} (hi : i < l.length) (hk : k < l[i].m.length) : HadAt l Hb (fun q => q == offL l i + k || t q) (W.setCell ⟨Hb, i * 16 + k, none⟩ (.bool true)) := by
  obtain ⟨hs, h1, h2, h3, h4⟩ := h
  have h16 := g.len _ (List.getElem_mem hi)
  have h8 := g.n8
  refine ⟨_, heap_setCell_same W Hb _ hs _ _ h1, by simpa using h2, fun j hj => ?_, fun i' k' hi' hk' ha => ?_⟩
  · rw [Array.getElem?_setIfInBounds]
    by_cases e : i * 16 + k = j
    · rw [if_pos e, if_pos (by omega)]
      exact ⟨true, rfl⟩
    · rw [if_neg e]
      exact h3 j hj
  · have h16' := g.len _ (List.getElem_mem hi')
    rw [Array.getElem?_setIfInBounds]
    by_cases e : i * 16 + k = i' * 16 + k'
    · have e1 : i = i' := by omega
      subst e1
      have e2 : k = k' := by omega
      subst e2
      rw [if_pos rfl, if_pos (by omega)]
      simp
    · rw [if_neg e, h4 i' k' hi' hk' ha]
      have : (offL l i' + k' == offL l i + k) = false := by
        simp only [beq_eq_false_iff_ne, ne_eq]
        intro e2
        obtain ⟨e3, e4⟩ := off_inj hi' hk' hi hk e2
        subst e3; subst e4
        exact e rfl
      simp only [this, Bool.false_or]
theorem flat_out {l : List Fl} {i : Nat} {s : Tk} (hst : Steps (flat l) (begT (flat l)) s) (hi : i < l.length) (ha : l[i].a = false) (h : NoneTo l s (offL l i)) : NoneTo l s (offL l (i + 1)) := by
  intro q hq hlq
  by_cases e : q < offL l i
  · exact h q hq e
  · rw [offL_succ hi] at hlq
    have hk : q - offL l i < l[i].m.length := by omega
    left
    refine steps_objT hst q hq ?_
    have := flat_get hi hk
    simp only [show offL l i + (q - offL l i) = q by omega] at this
    rw [this]
    exact ha
theorem taken_mdS {l : List Fl} {s : Tk} (g : Good l) (h : Steps (flat l) (begT (flat l)) s) : (∀ m ∈ s.r, MdS m) ∧ s.r.length ≤ 16 :=
  ⟨fun m hm => mdSm_names ((steps_ok g h).1 m hm).2, (steps_ok g h).2⟩
end Go.Proofs.Ytcfniagmnkngfaa

namespace Go.Proofs.Ytcfniagmnkngfaa
open Go.RowKit Go.Deep Go.ChangeShapes Go.WideShapes

def FlW (x : Fl) : Prop := FlOk x ∧ ∀ m ∈ x.m, MdW m
section
variable {H : Type} {enc : TypeId × Value → H} {W : World} {base : Nat} {spare : Nat → Bool} {held : Bool}
theorem cellsFile : Try.prog.cellsOf 55 = 2 := by kernel_rfl
theorem bytesModule : Try.prog.bytesOf 25 = 48 := by kernel_rfl
theorem openw_mod_at (n b off : Nat) (cs : List Value) (y : DataW H × List MemPlace) (hc : ∀ j, j < 2 → W.cell? ⟨b, off + j, none⟩ = cs[j]?) (hl : cs.length = 2) (ht : DataW.trod enc Try.prog W base spare held n 25 cs = some y) (hz : ∀ k ∈ y.1.weights Try.prog 25, k ≤ reachBytes) : ∃ x, (MdOk x ∧ MdW x) ∧ MdIn W b off x := by
  obtain ⟨m, F, G, cf, cg, ok, rfl, hA⟩ := openw_mod n cs y hl ht hz
  exact ⟨m, ok, F, cf, G, cg, hc 0 (by omega), hc 1 (by omega), hA⟩
theorem openw_file_at (n b off : Nat) (cs : List Value) (y : DataW H × List MemPlace) (hc : ∀ j, j < 2 → W.cell? ⟨b, off + j, none⟩ = cs[j]?) (hl : cs.length = 2) (ht : DataW.trod enc Try.prog W base spare held n 55 cs = some y) (hz : ∀ k ∈ y.1.weights Try.prog 55, k ≤ reachBytes) : ∃ x, FlW x ∧ FlIn W b off x := by
  match cs, hl with
  | [b0, b1], _ =>
    obtain ⟨ys, q, hd, _, _, hg⟩ := row_of Try.underlying55 (by kernel_rfl) cellsFile ht
    obtain ⟨c0, y0, g0, _, r0⟩ := hg 0 _ rfl
    obtain ⟨c1, y1, g1, hy1, r1⟩ := hg 1 _ rfl
    obtain rfl : b0 = c0 := Option.some.inj g0
    obtain rfl : b1 = c1 := Option.some.inj g1
    obtain ⟨z0, e0, _⟩ := DataW.trod_bool Try.underlying4 r0
    obtain ⟨A, cap, l, rfl, hr, ho, h1, h2, h3⟩ := open_roww MdIn (fun m => MdOk m ∧ MdW m) Try.underlying42 cellsModule (by omega) openw_mod_at r1 (fun k hk => hz k (by
      have hq : (ys.map (·.1))[1]? = some y1.1 := by rw [List.getElem?_map, hy1]; rfl
      (try simp only at hd)
      rw [hd]
      simp only [DataW.weights, Try.underlying55]
      exact DataW.weights_mem_each (j := 1) rfl hq _ hk))
    simp only [List.cons.injEq, and_true] at e0
    subst e0
    rw [bytesModule] at h3
    exact ⟨⟨z0, l⟩, ⟨⟨by simp only; omega, fun m hm => (ho m hm).1⟩, fun m hm => (ho m hm).2⟩, hc 0 (by omega), A, cap, hc 1 (by omega), hr⟩
set_option maxRecDepth 100000 in
theorem argw_files {r : Reach} {b0 : Nat} {v : Value} {d : DataW H} {p : List MemPlace} (hv : Value.okWide Try.prog W r b0 41 v) (h : DataW.Trod enc Try.prog W base spare held 41 v d p) (hz : ∀ k ∈ d.weights Try.prog 41, k ≤ reachBytes) :
    ∃ (l : List Fl) (A : Option Addr) (c : Nat), v = .slice A l.length c ∧ (∀ f ∈ l, FlW f) ∧ Files W (.slice A l.length c) l ∧ l.length ≤ 9223372036854775807 ∧ l.length ≤ c := by
  obtain ⟨a, n, c, rfl⟩ := okWide_slice Try.underlying41 hv
  obtain ⟨fuel, hf⟩ := h
  obtain ⟨A, cap, l, e, hr, ho, h1, h2, -⟩ := open_roww FlIn FlW Try.underlying41 cellsFile (by omega) openw_file_at (c := .slice a n c) hf hz
  rw [maxLen_is] at h2
  rw [e] at hr
  exact ⟨l, A, cap, e, ho, hr, by omega, h1⟩
end
end Go.Proofs.Ytcfniagmnkngfaa
