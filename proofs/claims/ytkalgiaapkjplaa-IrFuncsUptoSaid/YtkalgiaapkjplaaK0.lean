/- Package ir: which modules are right, and why they aren't: pure; a function's instructions, each with the number of values ahead of it, as they lie in memory. -/
import Derived.Test.YtkalgiaapkjplaaJ1
namespace Go.Proofs.Ytkalgiaapkjplaa
open Go.RowKit

/-- a module -/
structure Md where
  f : List Fn
  g : List Gl
def globB (g : Gl) : Bool := nameB g.s && (decide (1 ≤ g.b) && decide (g.b ≤ 3)) && (g.h || (g.i == 0 && !(g.b == 1)))
def aloneB (m : Md) : Bool := m.f.all funcB && m.g.all globB
def namesM (m : Md) : List ByteArray := m.f.map (·.s) ++ m.g.map (·.s)
def insF (f : Fn) : List In := (f.l.map (·.i)).flatten
def insM (m : Md) : List In := (m.f.map insF).flatten
/-- an instruction that names what there isn't -/
def noneI (m : Md) (i : In) : Bool := (i.o == 14 && !(m.f.any fun f => f.s == i.s)) || ((i.o == 12 || i.o == 13) && !(m.g.any fun g => g.s == i.s))
/-- an instruction that hands on another number of values than is asked for -/
def oddI (m : Md) (i : In) : Bool := i.o == 14 && (match m.f.find? (fun f => f.s == i.s) with | some f => !(f.p == i.l.length) | none => false)
def foundE (m : Md) : Int := if (insM m).any (noneI m) then 8 else if (insM m).any (oddI m) then 1 else 0
def checkE (m : Md) : Int := if 16 < m.f.length ∨ 16 < m.g.length then 4 else if aloneB m = false then 10 else if ¬ (namesM m).Nodup then 9 else foundE m

/-- an instruction, with how many values are ahead of it, and the slice of its values -/
structure It where
  n : Int
  i : In
  v : Value
def ItAt (W : World) (b off : Nat) (x : It) : Prop :=
  W.cell? ⟨b, off, none⟩ = some (.int .i64 x.i.o) ∧ W.cell? ⟨b, off + 1, none⟩ = some (.int .i64 x.i.a) ∧ W.cell? ⟨b, off + 2, none⟩ = some (.int .i64 x.i.b) ∧ W.cell? ⟨b, off + 3, none⟩ = some (.int .u64 x.i.k) ∧ W.cell? ⟨b, off + 4, none⟩ = some (.string x.i.s) ∧
    W.cell? ⟨b, off + 5, none⟩ = some x.v ∧ (∃ A cap, x.v = .slice A x.i.l.length cap) ∧ Ints W x.v x.i.l
theorem ItAt.next (W W' : World) (b off : Nat) (x : It) (hb : b < W.heap.size) (h : Below W.heap.size W W') (hx : ItAt W b off x) : ItAt W' b off x := by
  obtain ⟨h0, h1, h2, h3, h4, h5, h6, h7⟩ := hx
  exact ⟨(cellNext hb h _).trans h0, (cellNext hb h _).trans h1, (cellNext hb h _).trans h2, (cellNext hb h _).trans h3, (cellNext hb h _).trans h4, (cellNext hb h _).trans h5, h6, h7.next h⟩
def Its : World → Value → List It → Prop := RowOf 6 ItAt
theorem Its.next {W W' : World} {v : Value} {l : List It} (h : Its W v l) (hb : Below W.heap.size W W') : Its W' v l := RowOf.next ItAt.next h hb
theorem its_of {W : World} {v : Value} {l : List In} (p : Int) (h : Insts W v l) : ∃ t : List It, Its W v t ∧ t.map (·.i) = l ∧ ∀ (j : Nat) (hj : j < t.length), t[j].n = wrap64 (p + j) := by
  rcases h with ⟨rfl, h⟩ | ⟨h0, b, off, cap, rfl, h1, h2⟩
  · exact ⟨[], .inl ⟨rfl, h⟩, rfl, fun j hj => by simp at hj⟩
  · have hv : ∀ j, ∃ u : Value, ∀ (hj : j < l.length), W.cell? ⟨b, off + j * 6 + 5, none⟩ = some u ∧ (∃ A cap, u = .slice A l[j].l.length cap) ∧ Ints W u l[j].l := fun j => by
      by_cases hj : j < l.length
      · obtain ⟨_, _, _, _, _, A, c, h5, h6⟩ := h2 j hj
        exact ⟨_, fun _ => ⟨h5, ⟨A, c, rfl⟩, h6⟩⟩
      · exact ⟨.bool false, fun h => absurd h hj⟩
    obtain ⟨u, hu⟩ : ∃ u : Nat → Value, ∀ j, ∀ (hj : j < l.length), W.cell? ⟨b, off + j * 6 + 5, none⟩ = some (u j) ∧ (∃ A cap, u j = .slice A l[j].l.length cap) ∧ Ints W (u j) l[j].l := ⟨fun j => Classical.choose (hv j), fun j => Classical.choose_spec (hv j)⟩
    refine ⟨l.mapIdx (fun j i => ⟨wrap64 (p + j), i, u j⟩), .inr ⟨by simpa using h0, b, off, cap, by simp, h1, fun j hj => ?_⟩, ?_, fun j hj => by simp⟩
    · have hj' : j < l.length := by simpa using hj
      obtain ⟨c0, c1, c2, c3, c4, -⟩ := h2 j hj'
      obtain ⟨c5, c6, c7⟩ := hu j hj'
      rw [List.getElem_mapIdx]
      exact ⟨c0, c1, c2, c3, c4, c5, c6, c7⟩
    · apply List.ext_getElem
      · simp
      · intro j h1 h2
        simp
/-- the blocks' instructions, each as it is handed on -/
def BlkIts (W : World) (v : Value) (l : List Bk) (ts : List (List It)) : Prop :=
  Blocks W v l ∧ ts.length = l.length ∧ ∀ (k : Nat) (h : k < l.length) (h' : k < ts.length), ∃ b off cap A c, v = .slice (some ⟨b, off, none⟩) l.length cap ∧ b < W.heap.size ∧ BkAt W b (off + k * 8) l[k] ∧ W.cell? ⟨b, off + k * 8 + 1, none⟩ = some (.slice A l[k].i.length c) ∧
    Its W (.slice A l[k].i.length c) ts[k] ∧ ts[k].map (·.i) = l[k].i ∧ ∀ (j : Nat) (hj : j < ts[k].length), ts[k][j].n = wrap64 (l[k].p + j)
theorem blkIts_of {W : World} {v : Value} {l : List Bk} (h : Blocks W v l) : ∃ ts, BlkIts W v l ts := by
  have h' := h
  rcases h with ⟨rfl, h⟩ | ⟨h0, b, off, cap, rfl, h1, h2⟩
  · exact ⟨[], h', rfl, fun k hk _ => by simp at hk⟩
  · have hv : ∀ k, ∃ t : List It, ∀ (hk : k < l.length), ∃ A c, W.cell? ⟨b, off + k * 8 + 1, none⟩ = some (.slice A l[k].i.length c) ∧ Its W (.slice A l[k].i.length c) t ∧ t.map (·.i) = l[k].i ∧ ∀ (j : Nat) (hj : j < t.length), t[j].n = wrap64 (l[k].p + j) := fun k => by
      by_cases hk : k < l.length
      · obtain ⟨_, ⟨A, c, g1, g2⟩, _⟩ := h2 k hk
        obtain ⟨t, t1, t2, t3⟩ := its_of l[k].p g2
        exact ⟨t, fun _ => ⟨A, c, g1, t1, t2, t3⟩⟩
      · exact ⟨[], fun h => absurd h hk⟩
    obtain ⟨u, hu⟩ : ∃ u : Nat → List It, ∀ k, ∀ (hk : k < l.length), ∃ A c, W.cell? ⟨b, off + k * 8 + 1, none⟩ = some (.slice A l[k].i.length c) ∧ Its W (.slice A l[k].i.length c) (u k) ∧ (u k).map (·.i) = l[k].i ∧ ∀ (j : Nat) (hj : j < (u k).length), (u k)[j].n = wrap64 (l[k].p + j) := ⟨fun k => Classical.choose (hv k), fun k => Classical.choose_spec (hv k)⟩
    refine ⟨(List.range l.length).map u, h', by simp, fun k hk hk' => ?_⟩
    obtain ⟨A, c, g1, g2, g3, g4⟩ := hu k hk
    rw [List.getElem_map, List.getElem_range]
    exact ⟨b, off, cap, A, c, rfl, h1, h2 k hk, g1, g2, g3, g4⟩
theorem BlkIts.next {W W' : World} {v : Value} {l : List Bk} {ts : List (List It)} (h : BlkIts W v l ts) (hb : Below W.heap.size W W') : BlkIts W' v l ts := by
  refine ⟨h.1.next hb, h.2.1, fun k hk hk' => ?_⟩
  obtain ⟨b, off, cap, A, c, e, hbl, h1, h2, h3, h4⟩ := h.2.2 k hk hk'
  exact ⟨b, off, cap, A, c, e, Nat.lt_of_lt_of_le hbl hb.size, BkAt.next _ _ _ _ _ hbl hb h1, (cellNext hbl hb _).trans h2, h3.next hb, h4⟩
theorem BlkIts.ins {W : World} {v : Value} {l : List Bk} {ts : List (List It)} (h : BlkIts W v l ts) : ts.flatten.map (·.i) = (l.map (·.i)).flatten := by
  rw [List.map_flatten]
  congr 1
  apply List.ext_getElem
  · simpa using h.2.1
  · intro k h1 h2
    have hk : k < l.length := by simpa using h2
    have hk' : k < ts.length := by simpa using h1
    obtain ⟨_, _, _, _, _, _, _, _, _, _, e, _⟩ := h.2.2 k hk hk'
    simpa using e
theorem Its.all {W : World} {v : Value} {t : List It} (h : Its W v t) : ∀ x ∈ t, (∃ A cap, x.v = .slice A x.i.l.length cap) ∧ Ints W x.v x.i.l := by
  intro x hx
  obtain ⟨j, hj, rfl⟩ := List.getElem_of_mem hx
  rcases h with ⟨rfl, -⟩ | ⟨_, _, _, _, _, _, h⟩
  · simp at hj
  · exact (h j hj).2.2.2.2.2.2
theorem BlkIts.all {W : World} {v : Value} {l : List Bk} {ts : List (List It)} (h : BlkIts W v l ts) : ∀ x ∈ ts.flatten, (∃ A cap, x.v = .slice A x.i.l.length cap) ∧ Ints W x.v x.i.l := by
  intro x hx
  obtain ⟨t, ht, hxt⟩ := List.mem_flatten.1 hx
  obtain ⟨k, hk, rfl⟩ := List.getElem_of_mem ht
  obtain ⟨_, _, _, _, _, _, _, _, _, g, _⟩ := h.2.2 k (by rw [← h.2.1]; exact hk) hk
  exact g.all x hxt
theorem instsB_its : ∀ (t : List It) (p : Int), (∀ (j : Nat) (hj : j < t.length), t[j].n = p + j) → instsB p (t.map (·.i)) = t.all (fun x => instB x.n x.i)
  | [], _, _ => rfl
  | x :: t, p, h => by
    rw [List.map_cons, List.all_cons, instsB]
    have h0 := h 0 (by simp)
    simp only [List.getElem_cons_zero] at h0
    rw [h0, instsB_its t (p + 1) (fun j hj => by
      have := h (j + 1) (by simp; omega)
      simp only [List.getElem_cons_succ] at this
      rw [this]; omega)]
    simp
end Go.Proofs.Ytkalgiaapkjplaa
