/- Functions that came in as arguments, opened: how many instructions they have at most. -/
import Derived.Test.YtkalgiaapkjplaaRows
import Derived.Test.YtkalgiaapkjplaaTA
namespace Go.Proofs.Ytkalgiaapkjplaa
open Go.ChangeShapes Go.WideShapes Go.ChangeAt Go.RowKit Go.Deep Go.Joins

section
variable {H : Type} {enc : TypeId × Value → H} {W : World} {base : Nat} {spare : Nat → Bool} {held : Bool}
theorem bulk_pos (d : DataW H) : 1 ≤ Rows.uptoBulk d := by
  rcases d with l | _ | _ | _ | _ | _ | _ | _
  · cases l <;> simp [Rows.uptoBulk]
  all_goals simp [Rows.uptoBulk]
theorem bulk_len : ∀ l : List (DataW H), l.length ≤ Rows.uptoBulkAll l
  | [] => Nat.le_refl _
  | x :: r => by
    have h1 := bulk_pos x
    have h2 := bulk_len r
    simp only [Rows.uptoBulkAll, List.length_cons]
    omega
theorem bulk_mem : ∀ {l : List (DataW H)} {d : DataW H}, d ∈ l → Rows.uptoBulk d ≤ Rows.uptoBulkAll l
  | x :: r, d, h => by
    simp only [Rows.uptoBulkAll]
    rcases List.mem_cons.1 h with rfl | h
    · omega
    · have := bulk_mem h
      omega
/-- a slice is no longer than what it reads is of bulk -/
theorem slice_bulk {t e : TypeId} {fuel n cap : Nat} {A : Option Addr} {y : DataW H × List MemPlace} (ht : Try.prog.underlying t = some (.slice e)) (h : DataW.trod enc Try.prog W base spare held fuel t [.slice A n cap] = some y) : n ≤ Rows.uptoBulk y.1 := by
  rcases open_slice ht h with ⟨h1, _⟩ | ⟨a, len, cap', m, _, D, Pl, hcs, _, _, _, _, hy, _⟩
  · simp only [List.cons.injEq, and_true] at h1
    cases h1
    exact Nat.zero_le _
  · simp only [List.cons.injEq, and_true] at hcs
    cases hcs
    rw [show y.1 = .slice ((List.range n).map D) ((List.range (m - n)).map fun j => D (n + j)) by rw [hy]]
    have h1 := bulk_len ((List.range n).map D)
    rw [List.length_map, List.length_range] at h1
    simp only [Rows.uptoBulk]
    omega
/-- a row that came in, opened: what its elements are, and of which data -/
theorem open_rowb {α : Type} {t e : TypeId} {sz : Nat} (P : World → Nat → Nat → α → Prop) (ok : α → DataW H → Prop) {W : World} {base : Nat} {spare : Nat → Bool} {held : Bool} {c : Value} {fuel : Nat} {y : DataW H × List MemPlace}
    (ht : Try.prog.underlying t = some (.slice e)) (hsz : Try.prog.cellsOf e = sz) (hpos : 0 < sz)
    (hel : ∀ (n b off : Nat) (cs : List Value) (y : DataW H × List MemPlace), (∀ j, j < sz → W.cell? ⟨b, off + j, none⟩ = cs[j]?) → cs.length = sz → DataW.trod enc Try.prog W base spare held n e cs = some y → (∀ k ∈ y.1.weights Try.prog e, k ≤ reachBytes) → ∃ x, ok x y.1 ∧ P W b off x)
    (h : DataW.trod enc Try.prog W base spare held fuel t [c] = some y) (hz : ∀ k ∈ y.1.weights Try.prog t, k ≤ reachBytes) :
    ∃ (A : Option Addr) (cap : Nat) (l : List α) (ds : List (DataW H)), c = .slice A l.length cap ∧ RowOf sz P W c l ∧ ds.length = l.length ∧ (∀ (i : Nat) (h : i < l.length) (h' : i < ds.length), ok l[i] ds[i]) ∧ l.length ≤ cap ∧ cap ≤ maxLen ∧ Rows.uptoBulkAll ds ≤ Rows.uptoBulk y.1 := by
  rcases open_slice ht h with ⟨h1, _⟩ | ⟨a, len, cap, m, n, D, Pl, hcs, _, hl, hm, hmm, hy, hat⟩
  · simp only [List.cons.injEq, and_true] at h1
    subst h1
    exact ⟨none, 0, [], [], rfl, .inl ⟨rfl, .inl rfl⟩, rfl, fun i h => by simp at h, Nat.le_refl _, by unfold maxLen; omega, Nat.zero_le _⟩
  · simp only [List.cons.injEq, and_true] at hcs
    subst hcs
    have hlm : len ≤ m := by rw [hmm]; split <;> omega
    have hy1 : y.1 = .slice ((List.range len).map D) ((List.range (m - len)).map fun j => D (len + j)) := by rw [hy]
    rw [hy1] at hz
    simp only [DataW.weights, ht, List.length_map, List.length_range, List.mem_cons, List.mem_append] at hz
    have hbulk : Rows.uptoBulkAll ((List.range len).map D) ≤ Rows.uptoBulk y.1 := by
      rw [hy1]
      simp only [Rows.uptoBulk]
      omega
    by_cases h0 : 0 < len
    · obtain ⟨b, off, spot⟩ := a
      have hspot : spot = none ∧ b < W.heap.size := by
        obtain ⟨cs', hc, ht⟩ := hat 0 (by omega)
        rw [hsz] at hc
        obtain ⟨_, hcl, hca⟩ := World.cells?_some hc
        have k0 := hca 0 hpos
        have hl0 : cs'[0]? = some (cs'[0]'(by omega)) := List.getElem?_eq_getElem (by omega)
        rw [hl0] at k0
        have hb := World.block_lt_of_cell? W _ k0
        refine ⟨by simpa [Addr.add] using World.cell?_spot k0, ?_⟩
        revert hb
        unfold Addr.add
        (repeat' split) <;> simp
      obtain ⟨rfl, hb⟩ := hspot
      have cells : ∀ i, i < len → ∃ x, ok x (D i) ∧ P W b (off + i * sz) x := fun i hi => by
        obtain ⟨cs', hc, ht⟩ := hat i (by omega)
        rw [hsz] at hc
        obtain ⟨_, hcl, hca⟩ := World.cells?_some hc
        refine hel n b (off + i * sz) cs' _ (fun j hj => ?_) hcl ht (fun k hk => hz k (.inr (.inl (weightsAll_mem (List.mem_map.2 ⟨i, List.mem_range.2 hi, rfl⟩) k hk))))
        have k := hca j hj
        rwa [add_add, add_plain, ← Nat.add_assoc] at k
      obtain ⟨f, hf⟩ : ∃ f : Nat → α, ∀ i, i < len → ok (f i) (D i) ∧ P W b (off + i * sz) (f i) :=
        ⟨fun i => if hi : i < len then Classical.choose (cells i hi) else Classical.choose (cells 0 h0), fun i hi => by
          simp only [dif_pos hi]
          exact Classical.choose_spec (cells i hi)⟩
      refine ⟨some ⟨b, off, none⟩, cap, (List.range len).map f, (List.range len).map D, by simp, .inr ⟨by simp; exact h0, b, off, cap, by simp, hb, fun i hi => ?_⟩, by simp, fun i h h' => ?_, by simpa using hl, hm, hbulk⟩
      · rw [List.getElem_map, List.getElem_range]
        exact (hf i (by simpa using hi)).2
      · rw [List.getElem_map, List.getElem_map, List.getElem_range]
        exact (hf i (by simpa using h)).1
    · obtain rfl : len = 0 := by omega
      exact ⟨_, _, [], [], rfl, .inl ⟨rfl, .inr ⟨_, _, rfl⟩⟩, rfl, fun i h => by simp at h, hl, hm, Nat.zero_le _⟩
set_option maxRecDepth 100000 in
theorem blk_bulk {n : Nat} {b0 b2 b3 b4 b5 b6 b7 : Value} {A : Option Addr} {k cap : Nat} {y : DataW H × List MemPlace} (ht : DataW.trod enc Try.prog W base spare held n 58 [b0, .slice A k cap, b2, b3, b4, b5, b6, b7] = some y) : k ≤ Rows.uptoBulk y.1 := by
  obtain ⟨ys, m, _, hd, _, hyl, hf⟩ := DataW.trod_struct Try.underlying58 ht
  have f1 : DataW.trod enc Try.prog W base spare held m 56 (List.take (Try.prog.cellsOf 56) (List.drop 1 [b0, .slice A k cap, b2, b3, b4, b5, b6, b7])) = ys[1]? := hf 1 _ rfl
  rw [cellsInsts] at f1
  simp only [List.drop_zero, List.drop_succ_cons, List.take_succ_cons, List.take_zero] at f1
  have hyl' : ys.length = 3 := hyl
  rw [List.getElem?_eq_getElem (by omega)] at f1
  have h1 := slice_bulk Try.underlying56 f1
  have hd1 := congrArg Prod.fst hd
  simp only at hd1
  have h2 : Rows.uptoBulk (ys[1]'(by omega)).1 ≤ Rows.uptoBulkAll (ys.map (·.1)) := bulk_mem (List.mem_map_of_mem (List.getElem_mem _))
  rw [hd1]
  simp only [Rows.uptoBulk]
  omega
theorem openb_block (n b off : Nat) (cs : List Value) (y : DataW H × List MemPlace) (hc : ∀ j, j < 8 → W.cell? ⟨b, off + j, none⟩ = cs[j]?) (hl : cs.length = 8) (ht : DataW.trod enc Try.prog W base spare held n 58 cs = some y) (hz : ∀ k ∈ y.1.weights Try.prog 58, k ≤ reachBytes) : ∃ x : Bk, (BkW x ∧ x.i.length ≤ Rows.uptoBulk y.1) ∧ BkAt W b off x := by
  obtain ⟨x, A, A5, A7, c, c5, c7, ok, rfl, h1, h5, h7⟩ := openw_blk n cs y hl ht hz
  exact ⟨x, ⟨ok, blk_bulk ht⟩, hc 0 (by omega), ⟨A, c, hc 1 (by omega), h1⟩, hc 2 (by omega), hc 3 (by omega), hc 4 (by omega), ⟨A5, c5, hc 5 (by omega), h5⟩, hc 6 (by omega), A7, c7, hc 7 (by omega), h7⟩
theorem sum_bulk : ∀ (l : List Bk) (ds : List (DataW H)), ds.length = l.length → (∀ (i : Nat) (h : i < l.length) (h' : i < ds.length), l[i].i.length ≤ Rows.uptoBulk ds[i]) → ((l.map (·.i)).flatten).length ≤ Rows.uptoBulkAll ds
  | [], _, _, _ => Nat.zero_le _
  | x :: l, [], h, _ => by simp at h
  | x :: l, d :: ds, h, hk => by
    have h0 := hk 0 (by simp) (by simp)
    simp only [List.getElem_cons_zero] at h0
    have h1 := sum_bulk l ds (by simpa using h) (fun i h h' => by
      have := hk (i + 1) (by simp; omega) (by simp; omega)
      simpa using this)
    rw [List.map_cons, List.flatten_cons, List.length_append]
    simp only [Rows.uptoBulkAll]
    omega
theorem openb_fnc (n : Nat) (cs : List Value) (y : DataW H × List MemPlace) (hl : cs.length = 4) (ht : DataW.trod enc Try.prog W base spare held n 24 cs = some y) (hz : ∀ k ∈ y.1.weights Try.prog 24, k ≤ reachBytes) :
    ∃ (x : Fn) (A : Option Addr) (c : Nat), FnW x ∧ cs = [.string x.s, .int .i64 x.b, .int .i64 x.p, .slice A x.l.length c] ∧ Blocks W (.slice A x.l.length c) x.l ∧ (insF x).length ≤ Rows.uptoBulk y.1 := by
  match cs, hl with
  | [b0, b1, b2, b3], _ =>
    obtain ⟨ys, q, hd, _, _, hg⟩ := row_of Try.underlying24 (by kernel_rfl) cellsFunc ht
    obtain ⟨c0, y0, g0, _, r0⟩ := hg 0 _ rfl
    obtain ⟨c1, y1, g1, _, r1⟩ := hg 1 _ rfl
    obtain ⟨c2, y2, g2, _, r2⟩ := hg 2 _ rfl
    obtain ⟨c3, y3, g3, hy3, r3⟩ := hg 3 _ rfl
    obtain rfl : b0 = c0 := Option.some.inj g0
    obtain rfl : b1 = c1 := Option.some.inj g1
    obtain rfl : b2 = c2 := Option.some.inj g2
    obtain rfl : b3 = c3 := Option.some.inj g3
    obtain ⟨z0, e0, _, w0⟩ := DataW.trod_string Try.underlying9 r0
    obtain ⟨z1, e1, _, _⟩ := DataW.trod_int Try.underlying3 r1
    obtain ⟨z2, e2, _, _⟩ := DataW.trod_int Try.underlying3 r2
    have hq : (ys.map (·.1))[3]? = some y3.1 := by rw [List.getElem?_map, hy3]; rfl
    obtain ⟨A, c, l, ds, rfl, hB, hdl, hok, h9, h99, hbl⟩ := open_rowb (H := H) BkAt (fun (x : Bk) d => BkW x ∧ x.i.length ≤ Rows.uptoBulk d) Try.underlying22 cellsBlock (by omega) openb_block r3 (fun k hk => hz k (by
      rw [hd]
      simp only [DataW.weights, Try.underlying24]
      exact DataW.weights_mem_each (j := 3) rfl hq _ hk))
    simp only [List.cons.injEq, and_true] at e0 e1 e2
    subst e0 e1 e2
    have hb : ∀ x ∈ l, BkW x := fun x hx => by
      obtain ⟨i, hi, rfl⟩ := List.getElem_of_mem hx
      exact (hok i hi (by omega)).1
    have h1 := sum_bulk l ds hdl (fun i h h' => (hok i h h').2)
    have h2 : Rows.uptoBulk y3.1 ≤ Rows.uptoBulkAll (ys.map (·.1)) := bulk_mem (List.mem_of_getElem? hq)
    rw [maxLen_is] at h99
    refine ⟨⟨z0, z1, z2, l⟩, A, c, ⟨⟨by have := w0; rw [maxLen_is] at this; simp only; omega, by simp only; omega, fun b hb' => (hb b hb').1⟩, hb⟩, rfl, hB, ?_⟩
    rw [hd]
    simp only [Rows.uptoBulk]
    unfold insF
    simp only
    omega
set_option maxRecDepth 100000 in
theorem argb_func {r : Reach} {b0 : Nat} {v : Value} {d : DataW H} {p : List MemPlace} (hv : Value.okWide Try.prog W r b0 24 v) (h : DataW.Trod enc Try.prog W base spare held 24 v d p) (hz : ∀ k ∈ d.weights Try.prog 24, k ≤ reachBytes) :
    ∃ (x : Fn) (A : Option Addr) (c : Nat), v = .agg #[.string x.s, .int .i64 x.b, .int .i64 x.p, .slice A x.l.length c] ∧ FnW x ∧ Blocks W (.slice A x.l.length c) x.l ∧ (insF x).length ≤ Rows.uptoBulk d := by
  obtain ⟨cs, rfl, hsz⟩ := okWide_struct Try.underlying24 hv
  obtain ⟨l⟩ := cs
  obtain ⟨fuel, hf⟩ := h
  obtain ⟨x, A, c, ok, e, hB, hb⟩ := openb_fnc fuel l _ (hsz.trans cellsFunc) hf hz
  subst e
  exact ⟨x, A, c, rfl, ok, hB, hb⟩
end
end Go.Proofs.Ytkalgiaapkjplaa
