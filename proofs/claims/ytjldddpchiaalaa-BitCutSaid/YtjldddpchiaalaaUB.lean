/- Package bit: rows taken by a reader: of numbers, instructions, blocks, functions, globals. -/
import Derived.Test.YtjldddpchiaalaaUA
import Derived.Test.YtjldddpchiaalaaHU10
namespace Go.Proofs.Ytjldddpchiaalaa
open Go.RowKit
namespace Q

theorem info_any {T : TypeId} {sz bt : Nat} (h : (Try.prog.info? T).any (fun i => i.size == sz && i.bytes == bt && (i.zero.elim false fun z => z.cells.size == sz)) = true) :
    ∃ (i : TypeInfo) (z : Value), Try.prog.info? T = some i ∧ i.zero = some z ∧ i.size = sz ∧ i.bytes = bt ∧ z.cells.size = sz := by
  cases hi : Try.prog.info? T with
  | none => rw [hi] at h; cases h
  | some i =>
    rw [hi] at h
    simp only [Option.any_some, Bool.and_eq_true, beq_iff_eq] at h
    obtain ⟨⟨h1, h2⟩, h3⟩ := h
    cases hz : i.zero with
    | none => rw [hz] at h3; cases h3
    | some z =>
      rw [hz] at h3
      exact ⟨i, z, rfl, hz, h1, h2, by simpa using h3⟩
/-- one more element onto a row of the call's own: where the row lies then -/
theorem run_append_new {P : Program} {w : World} (base : Nat) (t ty e : TypeId) (i : TypeInfo) (z : Value) (ht : P.underlying t = some (.slice e)) (hi : P.info? e = some i) (hz : i.zero = some z) (hzs : z.cells.size = i.size) (h0 : 0 < i.size)
    (v : Value) (n : Nat) (xs : List Value) (hown : w.ownsRow base e i.size v n xs) (ad : Addr) (c : Nat) (news : List Value) (hl : news.length = i.size) (hnews : ∀ j u, news[j]? = some u → w.cell? (ad.add j) = some u) (h1 : ∀ u ∈ news, u.oneCell' = true)
    (h63 : n ≤ 1000000) (hby : i.bytes ≤ 1000) (hbase : base ≤ w.heap.size) :
    ∃ v' w', (Builtin.append_ #[t, t] ty #[v, .slice (some ad) 1 c]).run P w = .ok v' w' ∧ w'.ownsRow base e i.size v' (n + 1) (xs ++ news) ∧ w.grownBy w' v.ownBlock ∧ (v'.ownBlock = v.ownBlock ∨ ∀ g, v'.ownBlock = some g → w.heap.size ≤ g) := by
  have hl1 : news.length = 1 * i.size := by omega
  have hb : (n + 1) * i.bytes ≤ 140737488355328 := Nat.le_trans (Nat.mul_le_mul (show n + 1 ≤ 1000001 by omega) hby) (by decide)
  rcases hown.2 with ⟨hv, hn⟩ | ⟨g, cap, cur, hv, hbg, hg, hnc, hcm, hcs, htake⟩
  · subst hv
    have hx : xs = [] := List.eq_nil_of_length_eq_zero (by rw [hown.1, hn]; simp)
    obtain ⟨v', w', r1, r2, r3, -⟩ := run_append_own (P := P) w w.heap.size t ty e i z i.size i.bytes ht hi hz rfl rfl hzs h0 (.slice none 0 0) n xs ⟨hown.1, .inl ⟨rfl, hn⟩⟩ ad 1 c news hl1 hnews h1 (by unfold maxLen; omega) hb (Nat.le_refl _)
    refine ⟨v', w', r1, ⟨r2.1, ?_⟩, r3, .inr fun g hg => (r2.lt g hg).1⟩
    rcases r2.2 with h | ⟨g, cap, cur, a1, a2, a3⟩
    · exact .inl h
    · exact .inr ⟨g, cap, cur, a1, Nat.le_trans hbase a2, a3⟩
  · subst hv
    have hlen : (xs ++ news).length = (n + 1) * i.size := by rw [List.length_append, hown.1, hl1, ← Nat.add_mul]
    by_cases hroom : n + 1 ≤ cap
    · have hfit2 : n * i.size + news.length ≤ cur.size := by rw [hl1, hcs, ← Nat.add_mul]; exact Nat.mul_le_mul_right _ hroom
      refine ⟨_, _, run_append_room (P := P) w t ty e i ht hi g n cap cur hg ad 1 c news hl1 hnews h1 hroom hfit2, ⟨hlen, .inr ⟨g, cap, _, rfl, hbg, setRow_heap w g cur _ e _ hg, hroom, hcm, ?_, ?_⟩⟩, ⟨rfl, rfl, rfl, by simp, fun k _ hk => setRow_other w g k _ (fun e => hk (by simp [Value.ownBlock, e]))⟩, .inl rfl⟩
      · simp only [List.size_toArray, List.length_append, List.length_take, List.length_drop, Array.length_toList]
        omega
      · rw [htake, ← hlen]
        exact List.take_left
    · have hat : ∀ j u, xs[j]? = some u → w.cell? ((⟨g, 0, none⟩ : Addr).add j) = some u := World.ownsRow.cells (g := g) (v := .slice (some ⟨g, 0, none⟩) n cap) (n := n) (base := base) (e := e) (size := i.size) hown rfl
      have hge := grownCap_ge w (n + 1) cap e
      have h63' : n + 1 ≤ maxLen := by unfold maxLen; omega
      refine ⟨_, _, run_append_grow (P := P) w t ty e i z ht hi hz ⟨g, 0, none⟩ n cap xs hown.1 hat ad 1 c news hl1 hnews (by omega) (by omega) (growslice_fits (by omega) hb), ⟨hlen, .inr ⟨w.heap.size, _, _, rfl, hbase, heap_alloc_new w.drew _, hge, grownCap_le_maxLen w (n + 1) cap e h63', ?_, ?_⟩⟩, ⟨rfl, rfl, rfl, by simp, fun k hk _ => Lib.alloc_old w.drew _ k hk⟩, .inr fun q hq => ?_⟩
      · rw [Array.size_append, Array.size_append, List.size_toArray, List.size_toArray, size_zeroCells, hzs, hown.1, hl1, ← Nat.add_mul, ← Nat.add_mul]
        congr 1
        omega
      · simp only [Array.toList_append, List.append_assoc]
        rw [← List.append_assoc, ← hlen]
        exact List.take_left
      · simp only [Value.ownBlock, Option.some.injEq] at hq
        omega
theorem wpList_append_new {P : Program} {w : World} {ops : Array Oper} {rest : List Oper} {o : Oper} {a : Act} {Q : Exit → Act → World → Prop} (hgd : o.guard = none) (s x : Operand) (t e : TypeId)
    (ho : o.op = .call { callee := .builtin .append, args := #[s, x], argTypes := #[t, t] }) (base : Nat) (i : TypeInfo) (z : Value) (ht : P.underlying t = some (.slice e)) (hi : P.info? e = some i) (hz : i.zero = some z) (hzs : z.cells.size = i.size) (h0 : 0 < i.size)
    (v : Value) (n : Nat) (xs : List Value) (hs : a.eval s = v) (hown : w.ownsRow base e i.size v n xs) (ad : Addr) (c : Nat) (news : List Value) (hx : a.eval x = .slice (some ad) 1 c) (hl : news.length = i.size) (hnews : ∀ j u, news[j]? = some u → w.cell? (ad.add j) = some u) (h1 : ∀ u ∈ news, u.oneCell' = true)
    (h63 : n ≤ 1000000) (hby : i.bytes ≤ 1000) (hbase : base ≤ w.heap.size)
    (h : ∀ v' w', w'.ownsRow base e i.size v' (n + 1) (xs ++ news) → w.grownBy w' v.ownBlock → (v'.ownBlock = v.ownBlock ∨ ∀ g, v'.ownBlock = some g → w.heap.size ≤ g) → wpList P ops Q rest (a.put o.dst v') w') : wpList P ops Q (o :: rest) a w := by
  refine wpList_plain hgd fun K hK => ?_
  obtain ⟨v', w', hr, h2, h3, h4⟩ := run_append_new base t o.type e i z ht hi hz hzs h0 v n xs hown ad c news hl hnews h1 h63 hby hbase
  unfold Oper.wp execOp
  simp only [ho, resolve, invoke, builtin, Sem.run_bind, Sem.run_pure, Result.andThen_ok, List.map_toArray, List.map_cons, List.map_nil, hs, hx, hr]
  exact hK _ _ (h v' w' h2 h3 h4)
/-- it holds in each world in which the blocks from n on lie as here -/
def Fresh (n : Nat) (w : World) (P : World → Prop) : Prop := ∀ W, SameIn n w.heap.size w W → P W
theorem Fresh.at_ {n : Nat} {w : World} {P : World → Prop} (h : Fresh n w P) : P w := h w (SameIn.refl _ _ _)
theorem Fresh.later {n : Nat} {w w' : World} {P : World → Prop} {row : Option Nat} (h : Fresh n w P) (hg : w.grownBy w' row) (hr : ∀ r, row = some r → r < n) : Fresh n w' P := fun W hW =>
  h W ⟨Nat.le_trans hg.size hW.1, fun b h1 h2 => (hW.2 b h1 (Nat.lt_of_lt_of_le h2 hg.size)).trans (hg.block b h2 (fun e => by have := hr b e.symm; omega))⟩
theorem Fresh.thin {n m : Nat} {w : World} {P : World → Prop} (h : Fresh n w P) (hm : m ≤ n) : Fresh m w P := fun W hW => h W (hW.thin hm (Nat.le_refl _))
/-- worlds in which all from n on lies as it lies, but for the row itself -/
def Bar (n : Nat) (v : Value) (W U : World) : Prop := W.heap.size ≤ U.heap.size ∧ ∀ b, n ≤ b → b < W.heap.size → some b ≠ v.ownBlock → U.heap[b]? = W.heap[b]?
/-- a row of the call's own that is being gathered -/
def Gath {α : Type} (T : TypeId) (sz : Nat) (Ys : (World → Prop) → List Value → Nat → α → Prop) (n : Nat) (l : List α) (v : Value) (W : World) : Prop :=
  ∃ ys, W.ownsRow n T sz v l.length ys ∧ ∀ (j : Nat) (hj : j < l.length), Ys (Bar n v W) ys j l[j]
theorem Gath.start {α : Type} {T : TypeId} {sz : Nat} {Ys : (World → Prop) → List Value → Nat → α → Prop} {n : Nat} {W : World} : Gath T sz Ys n [] (.slice none 0 0) W :=
  ⟨[], World.ownsRow_nil _ _ _ _, fun j hj => by cases hj⟩
theorem Gath.form {α : Type} {T : TypeId} {sz : Nat} {Ys : (World → Prop) → List Value → Nat → α → Prop} {n : Nat} {l : List α} {v : Value} {W : World} (h : Gath T sz Ys n l v W) : ∃ A c, v = .slice A l.length c := by
  obtain ⟨ys, h1, -⟩ := h
  rcases h1.2 with ⟨rfl, h0⟩ | ⟨g, cap, cur, rfl, _⟩
  · exact ⟨none, 0, by rw [h0]⟩
  · exact ⟨_, _, rfl⟩
theorem Gath.lt {α : Type} {T : TypeId} {sz : Nat} {Ys : (World → Prop) → List Value → Nat → α → Prop} {n : Nat} {l : List α} {v : Value} {W : World} (h : Gath T sz Ys n l v W) : ∀ g, v.ownBlock = some g → n ≤ g ∧ g < W.heap.size := by
  obtain ⟨ys, h1, -⟩ := h
  exact fun g hg => h1.lt g hg
theorem Gath.move {α : Type} {T : TypeId} {sz : Nat} {Ys : (World → Prop) → List Value → Nat → α → Prop} (hm : ∀ {S S' : World → Prop} {ys : List Value} {j : Nat} {x : α}, Ys S ys j x → (∀ W, S' W → S W) → Ys S' ys j x)
    {n : Nat} {l : List α} {v : Value} {W W' : World} {row : Option Nat} (h : Gath T sz Ys n l v W) (hg : W.grownBy W' row) (hr : ∀ r, row = some r → r < n) : Gath T sz Ys n l v W' := by
  have hlt := h.lt
  obtain ⟨ys, h1, h2⟩ := h
  refine ⟨ys, h1.kept hg ?_, fun j hj => hm (h2 j hj) fun U hU => ⟨Nat.le_trans hg.size hU.1, fun b b1 b2 b3 => ?_⟩⟩
  · cases hv : v.ownBlock with
    | none => exact .inl rfl
    | some g => exact .inr fun e => by have := hlt g hv; have := hr g e.symm; omega
  · exact (hU.2 b b1 (Nat.lt_of_lt_of_le b2 hg.size) b3).trans (hg.block b b2 (fun e => by have := hr b e.symm; omega))
theorem Gath.snoc {α : Type} {T : TypeId} {sz : Nat} {Ys : (World → Prop) → List Value → Nat → α → Prop} (hm : ∀ {S S' : World → Prop} {ys : List Value} {j : Nat} {x : α}, Ys S ys j x → (∀ W, S' W → S W) → Ys S' ys j x)
    (hl : ∀ {S : World → Prop} {ys vs : List Value} {j n : Nat} {x : α}, Ys S ys j x → ys.length = n * sz → j < n → Ys S (ys ++ vs) j x) (hr : ∀ {S : World → Prop} {ys vs : List Value} {n : Nat} {x : α}, Ys S vs 0 x → ys.length = n * sz → vs.length = sz → Ys S (ys ++ vs) n x)
    {n n1 : Nat} {l : List α} {v v' : Value} {x : α} {W W' : World} {ys vs : List Value} (h1 : W.ownsRow n T sz v l.length ys) (h2 : ∀ (j : Nat) (hj : j < l.length), Ys (Bar n v W) ys j l[j]) (hn : n ≤ n1) (hv1 : ∀ g, v.ownBlock = some g → g < n1) (hx : Ys (SameIn n1 W.heap.size W) vs 0 x) (hvs : vs.length = sz)
    (o : W'.ownsRow n T sz v' (l.length + 1) (ys ++ vs)) (hg : W.grownBy W' v.ownBlock) (hv' : v'.ownBlock = v.ownBlock ∨ ∀ g, v'.ownBlock = some g → W.heap.size ≤ g) : Gath T sz Ys n (l ++ [x]) v' W' := by
  have ne : ∀ b, b < W.heap.size → some b ≠ v.ownBlock → some b ≠ v'.ownBlock := fun b hb h e => by
    rcases hv' with q | q
    · exact h (e.trans q)
    · have := q b e.symm; omega
  refine ⟨ys ++ vs, by rw [List.length_append]; exact o, fun j hj => ?_⟩
  by_cases hjl : j < l.length
  · rw [List.getElem_append_left hjl]
    refine hm (hl (h2 j hjl) h1.1 hjl) fun U hU => ⟨Nat.le_trans hg.size hU.1, fun b b1 b2 b3 => ?_⟩
    exact (hU.2 b b1 (Nat.lt_of_lt_of_le b2 hg.size) (ne b b2 b3)).trans (hg.block b b2 b3)
  · have hj1 : j = l.length := by simp at hj; omega
    subst hj1
    rw [List.getElem_concat_length rfl]
    refine hm (hr hx h1.1 hvs) fun U hU => ⟨Nat.le_trans hg.size hU.1, fun b b1 b2 => ?_⟩
    have nb : some b ≠ v.ownBlock := fun e => by have := hv1 b e.symm; omega
    exact (hU.2 b (by omega) (Nat.lt_of_lt_of_le b2 hg.size) (ne b b2 nb)).trans (hg.block b b2 nb)
theorem Gath.done {α : Type} {T : TypeId} {sz : Nat} {Ys : (World → Prop) → List Value → Nat → α → Prop} {ROW : World → Value → List α → Prop}
    (hrow : ∀ {W : World} {base : Nat} {v : Value} {l : List α} {ys : List Value}, W.ownsRow base T sz v l.length ys → ∀ {S : World → Prop}, S W → (∀ (i : Nat) (hi : i < l.length), Ys S ys i l[i]) → ROW W v l)
    {n : Nat} {l : List α} {v : Value} {W : World} (h : Gath T sz Ys n l v W) : Fresh n W (fun U => ROW U v l) := by
  obtain ⟨ys, h1, h2⟩ := h
  intro U hU
  exact hrow (ownsRow_same h1 (Nat.le_refl _) (Nat.le_refl _) hU) (S := Bar n v W) ⟨hU.1, fun b b1 b2 _ => hU.2 b b1 b2⟩ h2
def IntYs (_ : World → Prop) (ys : List Value) (j : Nat) (x : Int) : Prop := ys[j * 1]? = some (.int .i64 x)
def GlYs (_ : World → Prop) (ys : List Value) (j : Nat) (x : Gl) : Prop := ys[j * 4]? = some (.string x.s) ∧ ys[j * 4 + 1]? = some (.int .i64 x.b) ∧ ys[j * 4 + 2]? = some (.bool x.h) ∧ ys[j * 4 + 3]? = some (.int .u64 x.i)
theorem int_row {W : World} {base : Nat} {v : Value} {l : List Int} {ys : List Value} (ho : W.ownsRow base 3 1 v l.length ys) {S : World → Prop} (_ : S W) (h : ∀ (i : Nat) (hi : i < l.length), IntYs S ys i l[i]) : Ints W v l := by
  by_cases hl : 0 < l.length
  · obtain ⟨g, cap, e, -, hlt⟩ := ho.form hl
    subst e
    refine .inr ⟨hl, g, 0, cap, rfl, hlt, fun i hi => ?_⟩
    rw [Nat.zero_add, ho.cellAt _ (by omega)]
    have := h i hi
    unfold IntYs at this
    rwa [Nat.mul_one] at this
  · have hl0 : l = [] := by cases l <;> simp_all
    subst hl0
    rcases ho.2 with ⟨rfl, _⟩ | ⟨g, cap, cur, rfl, _⟩
    · exact .inl ⟨rfl, .inl rfl⟩
    · exact .inl ⟨rfl, .inr ⟨_, _, rfl⟩⟩
theorem gl_row {W : World} {base : Nat} {v : Value} {l : List Gl} {ys : List Value} (ho : W.ownsRow base 62 4 v l.length ys) {S : World → Prop} (_ : S W) (h : ∀ (i : Nat) (hi : i < l.length), GlYs S ys i l[i]) : Globs W v l := by
  by_cases hl : 0 < l.length
  · obtain ⟨g, cap, e, -, hlt⟩ := ho.form hl
    subst e
    refine .inr ⟨hl, g, 0, cap, rfl, hlt, fun i hi => ?_⟩
    have q : ∀ c, c < 4 → W.cell? ⟨g, 0 + i * 4 + c, none⟩ = ys[i * 4 + c]? := fun c hc => by rw [Nat.zero_add]; exact ho.cellAt _ (by omega)
    obtain ⟨h0, h1, h2, h3⟩ := h i hi
    exact ⟨(q 0 (by omega)).trans h0, (q 1 (by omega)).trans h1, (q 2 (by omega)).trans h2, (q 3 (by omega)).trans h3⟩
  · have hl0 : l = [] := by cases l <;> simp_all
    subst hl0
    rcases ho.2 with ⟨rfl, _⟩ | ⟨g, cap, cur, rfl, _⟩
    · exact .inl ⟨rfl, .inl rfl⟩
    · exact .inl ⟨rfl, .inr ⟨_, _, rfl⟩⟩
theorem gl {ys vs : List Value} {j n sz c : Nat} (h : ys.length = n * sz) (hj : j < n) (hc : c < sz) : (ys ++ vs)[j * sz + c]? = ys[j * sz + c]? := by
  refine List.getElem?_append_left ?_
  rw [h]
  have : (j + 1) * sz ≤ n * sz := Nat.mul_le_mul_right _ hj
  rw [Nat.add_mul] at this
  omega
theorem gr {ys vs : List Value} {n sz c : Nat} (h : ys.length = n * sz) : (ys ++ vs)[n * sz + c]? = vs[0 * sz + c]? := by
  rw [List.getElem?_append_right (by omega), h, Nat.zero_mul, Nat.zero_add, Nat.add_sub_cancel_left]
theorem bet_le {lo hi : Nat} {e : Int} (he : e ≠ 0) (r : St) : (betweenR lo hi e r).1 ≤ hi := by
  unfold betweenR betF
  simp only
  split
  · rename_i h
    exact (bet_bk (lo := lo) (hi := hi) he (r := r) h).2.2.2.1 |> fun q => by unfold betweenR betF at q; simp only at q; rw [if_pos h] at q; exact q
  · omega
theorem IntYs.mono {S S' : World → Prop} {ys : List Value} {j : Nat} {x : Int} (h : IntYs S ys j x) (_ : ∀ W, S' W → S W) : IntYs S' ys j x := h
theorem IntYs.left {S : World → Prop} {ys vs : List Value} {j n : Nat} {x : Int} (h : IntYs S ys j x) (hn : ys.length = n * 1) (hj : j < n) : IntYs S (ys ++ vs) j x := by
  have h0 := h
  exact (gl (c := 0) hn hj (by omega)).trans h0
theorem IntYs.right {S : World → Prop} {ys vs : List Value} {n : Nat} {x : Int} (h : IntYs S vs 0 x) (hn : ys.length = n * 1) (_ : vs.length = 1) : IntYs S (ys ++ vs) n x := by
  have h0 := h
  exact (gr (c := 0) hn).trans h0
theorem InYs.left {S : World → Prop} {ys vs : List Value} {j n : Nat} {x : In} (h : InYs S ys j x) (hn : ys.length = n * 6) (hj : j < n) : InYs S (ys ++ vs) j x := by
  obtain ⟨h0, h1, h2, h3, h4, A, c, h5, h6⟩ := h
  exact ⟨(gl (c := 0) hn hj (by omega)).trans h0, (gl (c := 1) hn hj (by omega)).trans h1, (gl (c := 2) hn hj (by omega)).trans h2, (gl (c := 3) hn hj (by omega)).trans h3, (gl (c := 4) hn hj (by omega)).trans h4, A, c, (gl (c := 5) hn hj (by omega)).trans h5, h6⟩
theorem InYs.right {S : World → Prop} {ys vs : List Value} {n : Nat} {x : In} (h : InYs S vs 0 x) (hn : ys.length = n * 6) (_ : vs.length = 6) : InYs S (ys ++ vs) n x := by
  obtain ⟨h0, h1, h2, h3, h4, A, c, h5, h6⟩ := h
  exact ⟨(gr (c := 0) hn).trans h0, (gr (c := 1) hn).trans h1, (gr (c := 2) hn).trans h2, (gr (c := 3) hn).trans h3, (gr (c := 4) hn).trans h4, A, c, (gr (c := 5) hn).trans h5, h6⟩
theorem BkYs.left {S : World → Prop} {ys vs : List Value} {j n : Nat} {x : Bk} (h : BkYs S ys j x) (hn : ys.length = n * 8) (hj : j < n) : BkYs S (ys ++ vs) j x := by
  obtain ⟨h0, ⟨A, c, h1, g1⟩, h2, h3, h4, ⟨A5, c5, h5, g5⟩, h6, A7, c7, h7, g7⟩ := h
  exact ⟨(gl (c := 0) hn hj (by omega)).trans h0, ⟨A, c, (gl (c := 1) hn hj (by omega)).trans h1, g1⟩, (gl (c := 2) hn hj (by omega)).trans h2, (gl (c := 3) hn hj (by omega)).trans h3, (gl (c := 4) hn hj (by omega)).trans h4, ⟨A5, c5, (gl (c := 5) hn hj (by omega)).trans h5, g5⟩, (gl (c := 6) hn hj (by omega)).trans h6, A7, c7, (gl (c := 7) hn hj (by omega)).trans h7, g7⟩
theorem BkYs.right {S : World → Prop} {ys vs : List Value} {n : Nat} {x : Bk} (h : BkYs S vs 0 x) (hn : ys.length = n * 8) (_ : vs.length = 8) : BkYs S (ys ++ vs) n x := by
  obtain ⟨h0, ⟨A, c, h1, g1⟩, h2, h3, h4, ⟨A5, c5, h5, g5⟩, h6, A7, c7, h7, g7⟩ := h
  exact ⟨(gr (c := 0) hn).trans h0, ⟨A, c, (gr (c := 1) hn).trans h1, g1⟩, (gr (c := 2) hn).trans h2, (gr (c := 3) hn).trans h3, (gr (c := 4) hn).trans h4, ⟨A5, c5, (gr (c := 5) hn).trans h5, g5⟩, (gr (c := 6) hn).trans h6, A7, c7, (gr (c := 7) hn).trans h7, g7⟩
theorem FnYs.left {S : World → Prop} {ys vs : List Value} {j n : Nat} {x : Fn} (h : FnYs S ys j x) (hn : ys.length = n * 4) (hj : j < n) : FnYs S (ys ++ vs) j x := by
  obtain ⟨h0, h1, h2, A, c, h3, h4⟩ := h
  exact ⟨(gl (c := 0) hn hj (by omega)).trans h0, (gl (c := 1) hn hj (by omega)).trans h1, (gl (c := 2) hn hj (by omega)).trans h2, A, c, (gl (c := 3) hn hj (by omega)).trans h3, h4⟩
theorem FnYs.right {S : World → Prop} {ys vs : List Value} {n : Nat} {x : Fn} (h : FnYs S vs 0 x) (hn : ys.length = n * 4) (_ : vs.length = 4) : FnYs S (ys ++ vs) n x := by
  obtain ⟨h0, h1, h2, A, c, h3, h4⟩ := h
  exact ⟨(gr (c := 0) hn).trans h0, (gr (c := 1) hn).trans h1, (gr (c := 2) hn).trans h2, A, c, (gr (c := 3) hn).trans h3, h4⟩
theorem GlYs.mono {S S' : World → Prop} {ys : List Value} {j : Nat} {x : Gl} (h : GlYs S ys j x) (_ : ∀ W, S' W → S W) : GlYs S' ys j x := h
theorem GlYs.left {S : World → Prop} {ys vs : List Value} {j n : Nat} {x : Gl} (h : GlYs S ys j x) (hn : ys.length = n * 4) (hj : j < n) : GlYs S (ys ++ vs) j x := by
  obtain ⟨h0, h1, h2, h3⟩ := h
  exact ⟨(gl (c := 0) hn hj (by omega)).trans h0, (gl (c := 1) hn hj (by omega)).trans h1, (gl (c := 2) hn hj (by omega)).trans h2, (gl (c := 3) hn hj (by omega)).trans h3⟩
theorem GlYs.right {S : World → Prop} {ys vs : List Value} {n : Nat} {x : Gl} (h : GlYs S vs 0 x) (hn : ys.length = n * 4) (_ : vs.length = 4) : GlYs S (ys ++ vs) n x := by
  obtain ⟨h0, h1, h2, h3⟩ := h
  exact ⟨(gr (c := 0) hn).trans h0, (gr (c := 1) hn).trans h1, (gr (c := 2) hn).trans h2, (gr (c := 3) hn).trans h3⟩
theorem info_Int : (Try.prog.info? 3).any (fun i => i.size == 1 && i.bytes == 8 && (i.zero.elim false fun z => z.cells.size == 1)) = true := by kernel_rfl
/-- what a call that takes one gives back -/
def EpInt (x : Int) (_n : Nat) (_w' : World) (val : Value) : Prop := val = .int .i64 x
set_option maxRecDepth 100000 in
set_option maxHeartbeats 4000000 in
theorem takeInt_any (take : St → Int × St) (g : FuncId) {rb : Nat} {r : St} (most : Nat) {W : World} (h : Rd W rb r) (hm : most ≤ 100) (hcf : ∀ args U, (callFunc g args).run Try.prog U = .ok (.enter g args) U)
    (hC : ∀ q U, Rd U rb q → Calls Try.prog g #[.pointer (some ⟨rb, 0, none⟩)] U fun e w' => ∃ val, e = .returned val ∧ EpInt (take q).1 U.heap.size w' val ∧ RdTo U rb (take q).2 w') :
    Calls Try.prog 93 #[.pointer (some ⟨rb, 0, none⟩), .int .u64 most, .func (.func g) #[.pointer (some ⟨rb, 0, none⟩)] #[]] W fun e w' => ∃ A c, e = .returned (.slice A (rowR most take r).1.length c) ∧ Fresh W.heap.size w' (fun U => Ints U (.slice A (rowR most take r).1.length c) (rowR most take r).1) ∧ RdTo W rb (rowR most take r).2 w' := by
  have HK := Lib.hid (count_any most h)
  have HCF := Lib.hid hcf
  have HC := Lib.hid hC
  have HRB := Lib.hid h.lt
  have hle := bet_le (lo := 0) (hi := most) (e := 4) (by decide) r
  unfold rowR
  obtain ⟨⟨n, q⟩, hq⟩ : ∃ t, betweenR 0 most 4 r = t := ⟨_, rfl⟩
  rw [hq] at HK hle ⊢
  dsimp only at HK hle ⊢
  have n1 : (n : Int) ≤ 100 := by omega
  have HN := Lib.hid (show n ≤ 100 by omega)
  clear h hcf hC hm hle hq
  go_enter Try.func93, Try.ntmps93
  go_wp2_with fail
  refine HK.out.mono ?_
  rintro e w1 ⟨rfl, k1⟩
  have K1 := Lib.hid k1
  clear k1
  go_wp2_with fail
  go_loopw [7, 11] (fun lv iv wr => ∃ i : Nat, i ≤ n ∧ iv = .int .i64 i ∧ Gath 3 1 IntYs W.heap.size (timesR take i q).1 lv wr ∧ RdTo W rb (timesR take i q).2 wr) (fun _ iv _ => n - (intOf iv).toNat)
  case atStart => exact ⟨0, Nat.zero_le _, rfl, Gath.start, K1.out⟩
  case round =>
    obtain ⟨i, hi, rfl, hG, hR⟩ := hrel
    have HG := Lib.hid hG
    have HR := Lib.hid hR
    have hll := timesR_len take i q
    by_cases hlt : i < n
    · have HS := Lib.hid (timesR_snoc take i q)
      have HCI := Lib.hid (HC.out _ wr hR.1)
      obtain ⟨⟨xs0, q1⟩, hxq⟩ : ∃ t, timesR take i q = t := ⟨_, rfl⟩
      rw [hxq] at HG HR HS HCI hll
      dsimp only at HG HR HS HCI hll
      obtain ⟨⟨x, q2⟩, hx⟩ : ∃ t, take q1 = t := ⟨_, rfl⟩
      rw [hx] at HS HCI
      dsimp only at HS HCI
      obtain ⟨A, c, hv⟩ := HG.out.form
      rw [hll] at hv
      subst hv
      have hk0 : (0 : Int) ≤ (i : Int) := Int.natCast_nonneg _
      have hk1 : (i : Int) < (n : Int) := by omega
      have HLT := Lib.hid hlt
      have HLL := Lib.hid (show xs0.length = i from hll)
      clear hG hR hxq hx hlt hi hll
      go_wp2_with fail
      rw [HCF.out]
      refine Calls.mono HCI.out ?_
      rintro e w2 ⟨val, rfl, hE, hR2⟩
      unfold EpInt at hE
      obtain rfl := hE
      have HR2 := Lib.hid hR2
      have HGB := Lib.hid (HG.out.move (fun h k => h.mono k) hR2.2 (fun r e => by cases e; exact HRB.out))
      have HX := Lib.hid (show IntYs (SameIn wr.heap.size w2.heap.size w2) [.int .i64 x] 0 x from rfl)
      have HW2 := Lib.hid hR2.2.size
      clear hR2
      obtain ⟨i0, z0, hi0, hz0, hz1, hz2, hz3⟩ := info_any info_Int
      obtain ⟨ob, hob⟩ : ∃ o, Obj.cells #[.int .i64 x] 3 (0, 0) = o := ⟨_, rfl⟩
      have HGC := Lib.hid (HGB.out.move (fun h k => h.mono k) (World.grownBy_alloc w2 ob none) (fun r e => by cases e))
      have HX2 := Lib.hid (HX.out.mono (S' := SameIn wr.heap.size (w2.alloc ob).heap.size (w2.alloc ob)) (fun U hU => ⟨by have := hU.1; rw [World.size_alloc] at this; omega, fun b b1 b2 => (hU.2 b b1 (by rw [World.size_alloc]; omega)).trans (Lib.alloc_old w2 ob b b2)⟩))
      have HNW := Lib.hid (World.news_of_block (cs := #[.int .i64 x]) (show (w2.alloc ob).heap[w2.heap.size]? = some (.cells #[.int .i64 x] 3 (0, 0)) by rw [heap_alloc_new, hob]))
      subst hob
      obtain ⟨ys, ho, hy⟩ := HGC.out
      rw [HLL.out] at ho
      have HO := Lib.hid ho
      have HY := Lib.hid hy
      have HZ := Lib.hid (show i0.size = 1 ∧ i0.bytes = 8 ∧ z0.cells.size = 1 from ⟨hz1, hz2, hz3⟩)
      have HI := Lib.hid (show Try.prog.info? 3 = some i0 ∧ i0.zero = some z0 from ⟨hi0, hz0⟩)
      clear ho hy hz1 hz2 hz3 hi0 hz0
      go_wp2_with (at_builtin; refine wpList_append_new rfl _ _ 70 3 rfl W.heap.size i0 z0 Try.underlying70 HI.out.1 HI.out.2 (by rw [HZ.out.1]; exact HZ.out.2.2) (by rw [HZ.out.1]; decide) (.slice A i c) i ys rfl (by rw [HZ.out.1]; exact HO.out) ⟨w2.heap.size, 0, none⟩ 1 [.int .i64 x] rfl (by rw [HZ.out.1]; rfl) HNW.out (by simp [Value.oneCell']) (by have := HN.out; have := HLT.out; omega) (by rw [HZ.out.2.1]; decide) (by have := HR.out.2.size; have := HW2.out; rw [World.size_alloc]; omega) ?_)
      intro v' w3 hown' hgrow hv'
      rw [HZ.out.1] at hown'
      have HR3 := Lib.hid (show RdTo W rb q2 w3 from by
        have hlt := HGC.out.lt
        have hne : rb ≠ w2.heap.size := by have := HR2.out.1.lt; omega
        have k1 : (w2.alloc (.cells #[.int .i64 x] 3)).heap[rb]? = w2.heap[rb]? := Lib.alloc_old w2 _ rb HR2.out.1.lt
        have k2 : some rb ≠ (Value.slice A i c).ownBlock := fun e => by have := hlt rb e.symm; have := HRB.out; omega
        refine ⟨⟨(hgrow.block rb (by rw [World.size_alloc]; have := HR2.out.1.lt; omega) k2).trans (k1.trans HR2.out.1.1), HR2.out.1.2⟩, ?_⟩
        refine (HR.out.2.trans HR2.out.2).andThen ((World.grownBy_alloc w2 (.cells #[.int .i64 x] 3) (Value.slice A i c).ownBlock).trans hgrow) (fun j hj => .inl (hlt j hj).1))
      have HG3 := Lib.hid (show Gath 3 1 IntYs W.heap.size (xs0 ++ [x]) v' w3 from
        Gath.snoc (fun h k => h.mono k) (fun h k k2 => IntYs.left h k k2) (fun h k k2 => IntYs.right h k k2) (by rw [HLL.out]; exact HO.out) HY.out HR.out.2.size (fun g hg => (HG.out.lt g hg).2) HX2.out rfl (by rw [HLL.out]; exact hown') hgrow (by rw [World.size_alloc]; exact hv'))
      clear hown' hgrow hv'
      go_wp2_with fail
      go_roundw
      case rel => exact ⟨i + 1, HLT.out, by go_num, by rw [HS.out]; exact HG3.out, by rw [HS.out]; exact HR3.out⟩
      case measure => have := HLT.out; simp [intOf]; omega
    · have he : i = n := by omega
      obtain ⟨A, c, hv⟩ := hG.form
      have HF := Lib.hid (hG.done (ROW := Ints) (fun h _ k k2 => int_row h k k2))
      subst he
      subst hv
      have hd : decide ((i : Int) < (i : Int)) = false := by simp
      clear hG hR hlt hi
      go_wp2_with fail
      go_ret
      exact ⟨_, _, rfl, HF.out, HR.out⟩
end Q
end Go.Proofs.Ytjldddpchiaalaa
