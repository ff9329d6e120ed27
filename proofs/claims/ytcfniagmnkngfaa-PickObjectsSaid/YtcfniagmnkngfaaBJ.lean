/- Package ir: the values that an instruction uses, of every operation; what stands in it that its operation asks for: pure. Package ir: which modules are right, and why they aren't: pure; a function's instructions, each with the number of values ahead of it, as they lie in memory. Package ir: how many values a block has; may a block go to one, with these? Package ir: slices.Equal of ints, are two instructions the same, how many values a block has. Package ir: are two instructions the same? Instructions, blocks, functions, modules that came in as arguments, opened. -/
import Derived.Test.YtcfniagmnkngfaaI4
import Derived.Test.YtcfniagmnkngfaaBA
import Derived.Deep.Cut
import Derived.RegionTactic
import Derived.BigQuiet
import Derived.Deep.QuietTactic
import Derived.Test.YtcfniagmnkngfaaBI
import Derived.SizedLaws
namespace Go.Proofs.Ytcfniagmnkngfaa
open Go.RowKit

theorem drewN_below' (w : World) (n : Nat) : Below w.heap.size w (w.drewN n) := ⟨rfl, rfl, rfl, Nat.le_refl _, fun _ _ => rfl⟩
theorem jba_beq (x y : ByteArray) : (x == y) = true ↔ x = y := by
  rw [beq_toListBytes, beq_iff_eq, ByteArray.toList_eq, ByteArray.toList_eq]
  constructor
  · intro h
    obtain ⟨x⟩ := x
    obtain ⟨y⟩ := y
    congr 1
    exact Array.toList_inj.1 h
  · rintro rfl; rfl
theorem jba_refl (x : ByteArray) : (x == x) = true := (jba_beq x x).2 rfl
theorem usesL_nil {o a b : Int} {l : List Int} (h : ¬ (2 ≤ o ∧ o ≤ 11)) (h1 : o ≠ 13) (h2 : o ≠ 16) (h3 : o ≠ 14) : usesL o a b l = [] := by
  unfold usesL
  rw [if_neg h, if_neg (by omega), if_neg h3]
theorem uses_len (i : In) (h : i.l.length ≤ 6) : (usesI i).length ≤ 6 := by
  unfold usesI usesL
  split
  · simp
  · split
    · simp
    · split
      · exact h
      · simp
theorem aB_hasB_cases (o : Int) : (o = 1) ∨ (2 ≤ o ∧ o ≤ 11) ∨ o = 12 ∨ o = 13 ∨ o = 14 ∨ o = 16 ∨ ¬ (1 ≤ o ∧ o ≤ 14) ∧ o ≠ 16 := by omega
/-- right in all that its operation doesn't ask for -/
theorem same_asked (i : In) : sameI i (askedI i) = ((aB i.o || i.a == 0) && (bB i.o || i.b == 0) && (i.o == 1 || i.k == 0) && (i.o == 14 || decide (i.l = [])) && (hasB i.o || i.s == ByteArray.empty)) := by
  obtain ⟨o, a, b, k, s, l⟩ := i
  unfold sameI askedI
  simp only
  rw [show (o == o) = true from by simp]
  have ka : (a == if aB o = true then a else 0) = (aB o || a == 0) := by cases aB o <;> simp
  have kb : (b == if bB o = true then b else 0) = (bB o || b == 0) := by cases bB o <;> simp
  have kk : (k == if o = 1 then k else 0) = (o == 1 || k == 0) := by by_cases h : o = 1 <;> simp [h]
  have ks : (s == if hasB o = true then s else ByteArray.empty) = (hasB o || s == ByteArray.empty) := by cases hasB o <;> simp [jba_refl]
  have kl : decide (l = if o = 14 then l else []) = (o == 14 || decide (l = [])) := by by_cases h : o = 14 <;> simp [h]
  rw [ka, kb, kk, ks, kl]
  cases aB o || a == 0 <;> cases bB o || b == 0 <;> cases o == 1 || k == 0 <;> cases hasB o || s == ByteArray.empty <;> cases o == 14 || decide (l = []) <;> rfl
theorem inst_chain (n : Int) (i : In) : instB n i = (decide (1 ≤ i.o) && decide (i.o ≤ 16) && decide (i.l.length ≤ 6) && amongB n (usesI i) && (nameB i.s || !hasB i.o) && sameI i (askedI i)) := by
  rw [same_asked]
  unfold instB
  cases decide (1 ≤ i.o) && decide (i.o ≤ 16) && decide (i.l.length ≤ 6) && amongB n (usesI i) <;> cases hasB i.o <;> cases nameB i.s <;> cases aB i.o || i.a == 0 <;> cases bB i.o || i.b == 0 <;> cases i.o == 1 || i.k == 0 <;> cases i.o == 14 || decide (i.l = []) <;> cases i.s == ByteArray.empty <;> rfl
/-- an instruction as a value -/
def inV (i : In) (v : Value) : Value := .agg #[.int .i64 i.o, .int .i64 i.a, .int .i64 i.b, .int .u64 i.k, .string i.s, v]
set_option maxRecDepth 100000 in
set_option maxHeartbeats 1000000 in
theorem uses_nil (o a b k : Int) (s : ByteArray) (v : Value) (w : World) (h : ¬ (2 ≤ o ∧ o ≤ 11)) (h1 : o ≠ 13) (h2 : o ≠ 16) (h3 : o ≠ 14) :
    Calls Try.prog 158 #[.agg #[.int .i64 o, .int .i64 a, .int .i64 b, .int .u64 k, .string s, v]] w (NewInts [] w) := by
  have t2 : (o == 2) = false := by simp; omega
  have t3 : (o == 3) = false := by simp; omega
  have t4 : (o == 4) = false := by simp; omega
  have t5 : (o == 5) = false := by simp; omega
  have t6 : (o == 6) = false := by simp; omega
  have t7 : (o == 7) = false := by simp; omega
  have t8 : (o == 8) = false := by simp; omega
  have t9 : (o == 9) = false := by simp; omega
  have t10 : (o == 10) = false := by simp; omega
  have t11 : (o == 11) = false := by simp; omega
  have t13 : (o == 13) = false := by simpa using h1
  have t16 : (o == 16) = false := by simpa using h2
  have t14 : (o == 14) = false := by simpa using h3
  clear h h1 h2 h3
  go_enter Try.func158, Try.ntmps158
  go_wp2_with fail
  go_ret
  exact ⟨_, rfl, ⟨rfl, .inl ⟨rfl, rfl⟩⟩, balloc (Below.refl _ w) _⟩
/-- ir.Uses, of every instruction -/
theorem uses_any (i : In) (v : Value) (w : World) (hP : Ints w v i.l) (hn : i.l.length * 8 ≤ 140737488355328) :
    Calls Try.prog 158 #[inV i v] w (NewInts (usesI i) w) := by
  obtain ⟨o, a, b, k, s, l⟩ := i
  unfold inV usesI
  simp only at hP hn ⊢
  by_cases h : 2 ≤ o ∧ o ≤ 11
  · have e : usesL o a b l = [a, b] := by unfold usesL; rw [if_pos h]
    rw [e]
    obtain ⟨h1, h2⟩ := h
    have hc : o = 2 ∨ o = 3 ∨ o = 4 ∨ o = 5 ∨ o = 6 ∨ o = 7 ∨ o = 8 ∨ o = 9 ∨ o = 10 ∨ o = 11 := by omega
    rcases hc with rfl | rfl | rfl | rfl | rfl | rfl | rfl | rfl | rfl | rfl
    · exact uses_2 a b k s v w
    · exact uses_3 a b k s v w
    · exact uses_4 a b k s v w
    · exact uses_5 a b k s v w
    · exact uses_6 a b k s v w
    · exact uses_7 a b k s v w
    · exact uses_8 a b k s v w
    · exact uses_9 a b k s v w
    · exact uses_10 a b k s v w
    · exact uses_11 a b k s v w
  · by_cases h13 : o = 13
    · subst h13
      exact uses_13 a b k s v w
    · by_cases h16 : o = 16
      · subst h16
        exact uses_16 a b k s v w
      · by_cases h14 : o = 14
        · subst h14
          exact uses_14 a b k s v l w hP hn
        · rw [usesL_nil h h13 h16 h14]
          exact uses_nil o a b k s v w h h13 h16 h14
end Go.Proofs.Ytcfniagmnkngfaa

namespace Go.Proofs.Ytcfniagmnkngfaa
open Go.RowKit

/-- a module -/
structure Md where
  f : List Fn
  g : List Gl
def globB (g : Gl) : Bool := nameB g.s && (decide (1 ≤ g.b) && decide (g.b ≤ 3)) && (g.h || (g.i == 0 && !(g.b == 1)))
def aloneB (m : Md) : Bool := m.f.all funcB && m.g.all globB
def namesM (m : Md) : List ByteArray := m.f.map (·.s) ++ m.g.map (·.s)
def insF (f : Fn) : List In := (f.l.map (·.i)).flatten
def insM (m : Md) : List In := (m.f.map insF).flatten
/-- an instruction that names what there isn't -/
def noneI (m : Md) (i : In) : Bool := (i.o == 14 && !(m.f.any fun f => f.s == i.s)) || ((i.o == 12 || i.o == 13) && !(m.g.any fun g => g.s == i.s))
/-- an instruction that hands on another number of values than is asked for -/
def oddI (m : Md) (i : In) : Bool := i.o == 14 && (match m.f.find? (fun f => f.s == i.s) with | some f => !(f.p == i.l.length) | none => false)
def foundE (m : Md) : Int := if (insM m).any (noneI m) then 8 else if (insM m).any (oddI m) then 1 else 0
def checkE (m : Md) : Int := if 16 < m.f.length ∨ 16 < m.g.length then 4 else if aloneB m = false then 10 else if ¬ (namesM m).Nodup then 9 else foundE m

/-- an instruction, with how many values are ahead of it, and the slice of its values -/
structure It where
  n : Int
  i : In
  v : Value
def ItAt (W : World) (b off : Nat) (x : It) : Prop :=
  W.cell? ⟨b, off, none⟩ = some (.int .i64 x.i.o) ∧ W.cell? ⟨b, off + 1, none⟩ = some (.int .i64 x.i.a) ∧ W.cell? ⟨b, off + 2, none⟩ = some (.int .i64 x.i.b) ∧ W.cell? ⟨b, off + 3, none⟩ = some (.int .u64 x.i.k) ∧ W.cell? ⟨b, off + 4, none⟩ = some (.string x.i.s) ∧
    W.cell? ⟨b, off + 5, none⟩ = some x.v ∧ (∃ A cap, x.v = .slice A x.i.l.length cap) ∧ Ints W x.v x.i.l
theorem ItAt.next (W W' : World) (b off : Nat) (x : It) (hb : b < W.heap.size) (h : Below W.heap.size W W') (hx : ItAt W b off x) : ItAt W' b off x := by
  obtain ⟨h0, h1, h2, h3, h4, h5, h6, h7⟩ := hx
  exact ⟨(cellNext hb h _).trans h0, (cellNext hb h _).trans h1, (cellNext hb h _).trans h2, (cellNext hb h _).trans h3, (cellNext hb h _).trans h4, (cellNext hb h _).trans h5, h6, h7.next h⟩
def Its : World → Value → List It → Prop := RowOf 6 ItAt
theorem Its.next {W W' : World} {v : Value} {l : List It} (h : Its W v l) (hb : Below W.heap.size W W') : Its W' v l := RowOf.next ItAt.next h hb
theorem its_of {W : World} {v : Value} {l : List In} (p : Int) (h : Insts W v l) : ∃ t : List It, Its W v t ∧ t.map (·.i) = l ∧ ∀ (j : Nat) (hj : j < t.length), t[j].n = wrap64 (p + j) := by
  rcases h with ⟨rfl, h⟩ | ⟨h0, b, off, cap, rfl, h1, h2⟩
  · exact ⟨[], .inl ⟨rfl, h⟩, rfl, fun j hj => by simp at hj⟩
  · have hv : ∀ j, ∃ u : Value, ∀ (hj : j < l.length), W.cell? ⟨b, off + j * 6 + 5, none⟩ = some u ∧ (∃ A cap, u = .slice A l[j].l.length cap) ∧ Ints W u l[j].l := fun j => by
      by_cases hj : j < l.length
      · obtain ⟨_, _, _, _, _, A, c, h5, h6⟩ := h2 j hj
        exact ⟨_, fun _ => ⟨h5, ⟨A, c, rfl⟩, h6⟩⟩
      · exact ⟨.bool false, fun h => absurd h hj⟩
    obtain ⟨u, hu⟩ : ∃ u : Nat → Value, ∀ j, ∀ (hj : j < l.length), W.cell? ⟨b, off + j * 6 + 5, none⟩ = some (u j) ∧ (∃ A cap, u j = .slice A l[j].l.length cap) ∧ Ints W (u j) l[j].l := ⟨fun j => Classical.choose (hv j), fun j => Classical.choose_spec (hv j)⟩
    refine ⟨l.mapIdx (fun j i => ⟨wrap64 (p + j), i, u j⟩), .inr ⟨by simpa using h0, b, off, cap, by simp, h1, fun j hj => ?_⟩, ?_, fun j hj => by simp⟩
    · have hj' : j < l.length := by simpa using hj
      obtain ⟨c0, c1, c2, c3, c4, -⟩ := h2 j hj'
      obtain ⟨c5, c6, c7⟩ := hu j hj'
      rw [List.getElem_mapIdx]
      exact ⟨c0, c1, c2, c3, c4, c5, c6, c7⟩
    · apply List.ext_getElem
      · simp
      · intro j h1 h2
        simp
/-- the blocks' instructions, each as it is handed on -/
def BlkIts (W : World) (v : Value) (l : List Bk) (ts : List (List It)) : Prop :=
  Blocks W v l ∧ ts.length = l.length ∧ ∀ (k : Nat) (h : k < l.length) (h' : k < ts.length), ∃ b off cap A c, v = .slice (some ⟨b, off, none⟩) l.length cap ∧ b < W.heap.size ∧ BkAt W b (off + k * 8) l[k] ∧ W.cell? ⟨b, off + k * 8 + 1, none⟩ = some (.slice A l[k].i.length c) ∧
    Its W (.slice A l[k].i.length c) ts[k] ∧ ts[k].map (·.i) = l[k].i ∧ ∀ (j : Nat) (hj : j < ts[k].length), ts[k][j].n = wrap64 (l[k].p + j)
theorem blkIts_of {W : World} {v : Value} {l : List Bk} (h : Blocks W v l) : ∃ ts, BlkIts W v l ts := by
  have h' := h
  rcases h with ⟨rfl, h⟩ | ⟨h0, b, off, cap, rfl, h1, h2⟩
  · exact ⟨[], h', rfl, fun k hk _ => by simp at hk⟩
  · have hv : ∀ k, ∃ t : List It, ∀ (hk : k < l.length), ∃ A c, W.cell? ⟨b, off + k * 8 + 1, none⟩ = some (.slice A l[k].i.length c) ∧ Its W (.slice A l[k].i.length c) t ∧ t.map (·.i) = l[k].i ∧ ∀ (j : Nat) (hj : j < t.length), t[j].n = wrap64 (l[k].p + j) := fun k => by
      by_cases hk : k < l.length
      · obtain ⟨_, ⟨A, c, g1, g2⟩, _⟩ := h2 k hk
        obtain ⟨t, t1, t2, t3⟩ := its_of l[k].p g2
        exact ⟨t, fun _ => ⟨A, c, g1, t1, t2, t3⟩⟩
      · exact ⟨[], fun h => absurd h hk⟩
    obtain ⟨u, hu⟩ : ∃ u : Nat → List It, ∀ k, ∀ (hk : k < l.length), ∃ A c, W.cell? ⟨b, off + k * 8 + 1, none⟩ = some (.slice A l[k].i.length c) ∧ Its W (.slice A l[k].i.length c) (u k) ∧ (u k).map (·.i) = l[k].i ∧ ∀ (j : Nat) (hj : j < (u k).length), (u k)[j].n = wrap64 (l[k].p + j) := ⟨fun k => Classical.choose (hv k), fun k => Classical.choose_spec (hv k)⟩
    refine ⟨(List.range l.length).map u, h', by simp, fun k hk hk' => ?_⟩
    obtain ⟨A, c, g1, g2, g3, g4⟩ := hu k hk
    rw [List.getElem_map, List.getElem_range]
    exact ⟨b, off, cap, A, c, rfl, h1, h2 k hk, g1, g2, g3, g4⟩
theorem BlkIts.next {W W' : World} {v : Value} {l : List Bk} {ts : List (List It)} (h : BlkIts W v l ts) (hb : Below W.heap.size W W') : BlkIts W' v l ts := by
  refine ⟨h.1.next hb, h.2.1, fun k hk hk' => ?_⟩
  obtain ⟨b, off, cap, A, c, e, hbl, h1, h2, h3, h4⟩ := h.2.2 k hk hk'
  exact ⟨b, off, cap, A, c, e, Nat.lt_of_lt_of_le hbl hb.size, BkAt.next _ _ _ _ _ hbl hb h1, (cellNext hbl hb _).trans h2, h3.next hb, h4⟩
theorem BlkIts.ins {W : World} {v : Value} {l : List Bk} {ts : List (List It)} (h : BlkIts W v l ts) : ts.flatten.map (·.i) = (l.map (·.i)).flatten := by
  rw [List.map_flatten]
  congr 1
  apply List.ext_getElem
  · simpa using h.2.1
  · intro k h1 h2
    have hk : k < l.length := by simpa using h2
    have hk' : k < ts.length := by simpa using h1
    obtain ⟨_, _, _, _, _, _, _, _, _, _, e, _⟩ := h.2.2 k hk hk'
    simpa using e
theorem Its.all {W : World} {v : Value} {t : List It} (h : Its W v t) : ∀ x ∈ t, (∃ A cap, x.v = .slice A x.i.l.length cap) ∧ Ints W x.v x.i.l := by
  intro x hx
  obtain ⟨j, hj, rfl⟩ := List.getElem_of_mem hx
  rcases h with ⟨rfl, -⟩ | ⟨_, _, _, _, _, _, h⟩
  · simp at hj
  · exact (h j hj).2.2.2.2.2.2
theorem BlkIts.all {W : World} {v : Value} {l : List Bk} {ts : List (List It)} (h : BlkIts W v l ts) : ∀ x ∈ ts.flatten, (∃ A cap, x.v = .slice A x.i.l.length cap) ∧ Ints W x.v x.i.l := by
  intro x hx
  obtain ⟨t, ht, hxt⟩ := List.mem_flatten.1 hx
  obtain ⟨k, hk, rfl⟩ := List.getElem_of_mem ht
  obtain ⟨_, _, _, _, _, _, _, _, _, g, _⟩ := h.2.2 k (by rw [← h.2.1]; exact hk) hk
  exact g.all x hxt
theorem instsB_its : ∀ (t : List It) (p : Int), (∀ (j : Nat) (hj : j < t.length), t[j].n = p + j) → instsB p (t.map (·.i)) = t.all (fun x => instB x.n x.i)
  | [], _, _ => rfl
  | x :: t, p, h => by
    rw [List.map_cons, List.all_cons, instsB]
    have h0 := h 0 (by simp)
    simp only [List.getElem_cons_zero] at h0
    rw [h0, instsB_its t (p + 1) (fun j hj => by
      have := h (j + 1) (by simp; omega)
      simp only [List.getElem_cons_succ] at this
      rw [this]; omega)]
    simp
end Go.Proofs.Ytcfniagmnkngfaa

namespace Go.Proofs.Ytcfniagmnkngfaa
open Go.RowKit

/-- a block as a value -/
def bkV (b : Bk) (v vl vm : Value) : Value := .agg #[.int .i64 b.p, v, .int .i64 b.e.k, .int .i64 b.e.a, .int .i64 b.e.t, vl, .int .i64 b.e.e, vm]
theorem values_any (p k a t e : Int) (A : Option Addr) (n cap : Nat) (vl vm : Value) (w : World) :
    Calls Try.prog 137 #[.agg #[.int .i64 p, .slice A n cap, .int .i64 k, .int .i64 a, .int .i64 t, vl, .int .i64 e, vm]] w fun r w' => r = .returned (.int .i64 (wrap64 (p + n))) ∧ Below w.heap.size w w' := by
  go_enter Try.func137, Try.ntmps137
  go_wp2_with fail
  go_ret
  exact ⟨rfl, balloc (Below.refl _ w) _⟩
theorem one_int (w : World) (x : Int) : Ints (w.alloc (.cells #[.int .i64 x] 3)) (.slice (some ⟨w.heap.size, 0, none⟩) 1 1) [x] :=
  .inr ⟨by simp, w.heap.size, 0, 1, rfl, by simp, fun i hi => by
    have h : i = 0 := by simpa using hi
    subst h
    rw [Lib.cell_of_heap (heap_alloc_new w _)]
    rfl⟩
theorem among_one (n x : Int) : amongB n [x] = (decide (0 ≤ x) && decide (x < n)) := by simp [amongB]
set_option maxRecDepth 100000 in
set_option maxHeartbeats 2000000 in
theorem goes_no (all : List Bk) (to : Int) (B N : Nat) (C : Option Addr) (c : Nat) (v : Value) (w : World) (hB : w.cell? ⟨B, 0, none⟩ = some (.slice C all.length c))
    (h : amongB all.length [to] = false) :
    Calls Try.prog 156 #[.int .i64 to, v, .pointer (some ⟨B, 0, none⟩), .pointer (some ⟨N, 0, none⟩)] w fun e w' => e = .returned (.bool false) ∧ Below w.heap.size w w' := by
  have HA := Lib.hid (fun (W : World) => among_any all.length [to] (some ⟨w.heap.size, 0, none⟩) 1 1 (w.alloc (.cells #[.int .i64 to] 3)) (one_int w to) (by omega))
  rw [h] at HA
  clear h
  go_enter Try.func156, Try.ntmps156
  go_wp2_with fail
  refine (HA.out w).mono ?_
  rintro r w1 ⟨rfl, hb⟩
  have HB := Lib.hid (bthen (balloc (Below.refl _ w) _) hb)
  clear hb
  go_wp2_with fail
  go_ret
  exact ⟨rfl, HB.out⟩
set_option maxRecDepth 100000 in
set_option maxHeartbeats 2000000 in
theorem goes_in (all : List Bk) (n : Int) (i : Nat) (l : List Int) (B N : Nat) (C A : Option Addr) (c cap : Nat) (w : World) (hB : w.cell? ⟨B, 0, none⟩ = some (.slice C all.length c)) (hN : w.cell? ⟨N, 0, none⟩ = some (.int .i64 n)) (_hc : all.length ≤ 9223372036854775807)
    (hS : Blocks w (.slice C all.length c) all) (hl : Ints w (.slice A l.length cap) l) (hl9 : l.length ≤ 9223372036854775807) (hi : i < all.length) :
    Calls Try.prog 156 #[.int .i64 i, .slice A l.length cap, .pointer (some ⟨B, 0, none⟩), .pointer (some ⟨N, 0, none⟩)] w fun e w' => e = .returned (.bool ((l.length : Int) == all[i].p && amongB n l)) ∧ Below w.heap.size w w' := by
  have hBl := World.block_lt_of_cell? w _ hB
  have hNl := World.block_lt_of_cell? w _ hN
  have HA := Lib.hid (fun (W : World) => among_any all.length [(i : Int)] (some ⟨w.heap.size, 0, none⟩) 1 1 (w.alloc (.cells #[.int .i64 (i : Int)] 3)) (one_int w i) (by omega))
  rw [show amongB all.length [(i : Int)] = true by rw [among_one]; simp; omega] at HA
  have HL := Lib.hid (fun (W : World) (hb : Below w.heap.size w W) => among_any n l A l.length cap W (hl.next hb) hl9)
  obtain ⟨b, off, hC, hbl, c0, -⟩ := hS.at_ hi
  subst hC
  obtain ⟨p, hp⟩ : ∃ p, all[i].p = p := ⟨_, rfl⟩
  rw [hp] at c0 ⊢
  have i0 : (0 : Int) ≤ (i : Int) := by omega
  have i1 : (i : Int) < (all.length : Int) := by omega
  obtain ⟨m, hm⟩ : ∃ m, all.length = m := ⟨_, rfl⟩
  rw [hm] at hB _hc HA i1
  have HC := Lib.hid (fun (W : World) (hb : Below w.heap.size w W) => (⟨(cellNext hBl hb 0).trans hB, (cellNext hNl hb 0).trans hN, (cellNext hbl hb _).trans c0⟩ : W.cell? ⟨B, 0, none⟩ = some (.slice (some ⟨b, off, none⟩) m c) ∧ W.cell? ⟨N, 0, none⟩ = some (.int .i64 n) ∧ W.cell? ⟨b, off + i * 8, none⟩ = some (.int .i64 p)))
  clear hS hl hm hp hi hN c0 hBl hNl hbl
  go_enter Try.func156, Try.ntmps156
  go_wp2_with fail
  refine (HA.out w).mono ?_
  rintro r w1 ⟨rfl, hb⟩
  have HB := Lib.hid (bthen (balloc (Below.refl _ w) _) hb)
  clear hb hB
  obtain ⟨k0, k1, k2⟩ := HC.out _ HB.out
  by_cases he : (l.length : Int) = p
  · have e1 : ((l.length : Int) == p) = true := by simpa using he
    have HE := Lib.hid e1
    clear he
    go_wp2_with fail
    refine (HL.out _ HB.out).mono ?_
    rintro r w2 ⟨rfl, hb⟩
    have HB2 := Lib.hid (bthen HB.out hb)
    clear hb
    go_wp2_with fail
    go_ret
    exact ⟨by rw [HE.out]; rfl, HB2.out⟩
  · have e1 : ((l.length : Int) == p) = false := by simpa using he
    have HE := Lib.hid e1
    clear he
    go_wp2_with fail
    go_ret
    exact ⟨by rw [HE.out]; rfl, HB.out⟩
/-- may a block go to one of these, with so many values, with these? -/
theorem goes_any (all : List Bk) (n to : Int) (l : List Int) (B N : Nat) (C A : Option Addr) (c cap : Nat) (w : World) (hB : w.cell? ⟨B, 0, none⟩ = some (.slice C all.length c)) (hN : w.cell? ⟨N, 0, none⟩ = some (.int .i64 n)) (hc : all.length ≤ 9223372036854775807)
    (hS : Blocks w (.slice C all.length c) all) (hl : Ints w (.slice A l.length cap) l) (hl9 : l.length ≤ 9223372036854775807) :
    Calls Try.prog 156 #[.int .i64 to, .slice A l.length cap, .pointer (some ⟨B, 0, none⟩), .pointer (some ⟨N, 0, none⟩)] w fun e w' => e = .returned (.bool (goesB all n to l)) ∧ Below w.heap.size w w' := by
  cases h : amongB all.length [to] with
  | false =>
    have e : goesB all n to l = false := by
      rw [among_one] at h
      unfold goesB
      rw [h]
      simp
    rw [e]
    exact goes_no all to B N C c _ w hB h
  | true =>
    rw [among_one] at h
    simp only [Bool.and_eq_true, decide_eq_true_eq] at h
    obtain ⟨i, rfl⟩ := Int.eq_ofNat_of_zero_le h.1
    have hi : i < all.length := by omega
    have e : goesB all n (i : Int) l = ((l.length : Int) == all[i].p && amongB n l) := by
      unfold goesB
      rw [decide_eq_true h.1, decide_eq_true h.2, Int.toNat_natCast, List.getElem?_eq_getElem hi]
      simp
    rw [e]
    exact goes_in all n i l B N C A c cap w hB hN hc hS hl hl9 hi
end Go.Proofs.Ytcfniagmnkngfaa

namespace Go.Proofs.Ytcfniagmnkngfaa
open Go.RowKit

set_option maxRecDepth 100000 in
set_option maxHeartbeats 4000000 in
theorem iequal_any (m k : List Int) (A A' : Option Addr) (n n' cap cap' : Nat) (w : World) (hS : Ints w (.slice A n cap) m) (hS' : Ints w (.slice A' n' cap') k) (hn9 : n ≤ 9223372036854775807) :
    Calls Try.prog 161 #[.slice A n cap, .slice A' n' cap'] w fun e w' => e = .returned (.bool (decide (m = k))) ∧ Below w.heap.size w w' := by
  have hn := hS.len
  have hn' := hS'.len
  by_cases hne : n = n'
  · subst hne
    have HS := Lib.hid hS
    have HS' := Lib.hid hS'
    have HN := Lib.hid hn
    have HN' := Lib.hid hn'
    have n1 : (n : Int) ≤ 9223372036854775807 := by omega
    clear hS hS' hn hn' hn9
    go_enter Try.func161, Try.ntmps161
    go_wp2_with fail
    go_loopw [13] (fun iv wr => ∃ i : Nat, i ≤ n ∧ iv = .int .i64 i ∧ m.take i = k.take i ∧ Below w.heap.size w wr) (fun iv _ => n - (intOf iv).toNat)
    case atStart => exact ⟨0, Nat.zero_le _, rfl, by simp, Below.refl _ _⟩
    case round =>
      obtain ⟨i, hi, rfl, hs, hb⟩ := hrel
      have HB := Lib.hid hb
      have HT := Lib.hid hs
      clear hb hs
      by_cases hlt : i < n
      · have hm : i < m.length := by rw [HN.out]; exact hlt
        have hk : i < k.length := by rw [HN'.out]; exact hlt
        obtain ⟨b, off, hA, e0⟩ := (HS.out.next HB.out).at_ hm
        obtain ⟨b', off', hA', g0⟩ := (HS'.out.next HB.out).at_ hk
        subst hA hA'
        have HDIF := Lib.hid (show m[i] ≠ k[i] → decide (m = k) = false from fun h => by
          rw [decide_eq_false_iff_not]
          rintro rfl
          exact h rfl)
        have HSAME := Lib.hid (show m[i] = k[i] → m.take (i + 1) = k.take (i + 1) from fun e => by
          rw [List.take_succ_eq_append_getElem hm, List.take_succ_eq_append_getElem hk, HT.out, e])
        obtain ⟨x, hx⟩ : ∃ x, m[i] = x := ⟨_, rfl⟩
        obtain ⟨y, hy⟩ : ∃ x, k[i] = x := ⟨_, rfl⟩
        rw [hx] at e0 HDIF HSAME
        rw [hy] at g0 HDIF HSAME
        clear hx hy hm hk
        have HLT := Lib.hid hlt
        have i0 : (0 : Int) ≤ (i : Int) := by omega
        have i1 : (i : Int) < (n : Int) := by omega
        clear hlt
        by_cases hxy : x = y
        · subst hxy
          have HNX := Lib.hid (HSAME.out rfl)
          clear HDIF HSAME
          go_wp2_with fail
          go_quiet (fail)
          have HB2 := Lib.hid (bthen HB.out (drewN_below' _ nq))
          clear e0 g0
          generalize wr.drewN nq = wz at *
          go_wp2_with fail
          go_roundw
          case rel => exact ⟨i + 1, HLT.out, by go_num, HNX.out, HB2.out⟩
          case measure => have := HLT.out; simp [intOf]; omega
        · have q1 : (x != y) = true := by simpa using hxy
          have HNX := Lib.hid (HDIF.out hxy)
          clear HDIF HSAME hxy
          go_wp2_with fail
          go_quiet (fail)
          have HB2 := Lib.hid (bthen HB.out (drewN_below' _ nq))
          clear e0 g0
          generalize wr.drewN nq = wz at *
          go_wp2_with fail
          go_ret
          exact ⟨by rw [HNX.out]; rfl, HB2.out⟩
      · have i1 : ¬ (i : Int) < (n : Int) := by omega
        have HF := Lib.hid (show decide (m = k) = true by
          rw [decide_eq_true_iff]
          have h := HT.out
          rwa [List.take_of_length_le (by have := HN.out; omega), List.take_of_length_le (by have := HN'.out; omega)] at h)
        clear hlt
        go_wp2_with fail
        go_ret
        exact ⟨by rw [HF.out]; rfl, HB.out⟩
  · have e1 : ((n : Int) != (n' : Int)) = true := by simp; omega
    have HF := Lib.hid (show decide (m = k) = false by
      rw [decide_eq_false_iff_not]
      rintro rfl
      omega)
    clear hS hS' hn hn' hn9 hne
    go_enter Try.func161, Try.ntmps161
    go_wp2_with fail
    go_ret
    exact ⟨by rw [HF.out]; rfl, Below.refl _ _⟩
end Go.Proofs.Ytcfniagmnkngfaa

namespace Go.Proofs.Ytcfniagmnkngfaa
open Go.RowKit

theorem retBool {f : FuncId} {args : Array Value} {w : World} {c d : Bool} (h : c = d) (r : Calls Try.prog f args w fun e w' => e = .returned (.bool c) ∧ Below w.heap.size w w') :
    Calls Try.prog f args w fun e w' => e = .returned (.bool d) ∧ Below w.heap.size w w' := h ▸ r
/-- two boxes of a call -/
theorem boxes2 (w : World) (cs ds : Array Value) (t : TypeId) : Below w.heap.size w ((w.alloc (.cells cs t)).alloc (.cells ds t)) := balloc (balloc (Below.refl _ w) _) _
set_option maxRecDepth 100000 in
set_option maxHeartbeats 2000000 in
theorem sameInst_0 (xo xa xb xk yo ya yb yk : Int) (xs ys : ByteArray) (u v : Value) (w : World) (h0 : (xo == yo) = false) :
    Calls Try.prog 159 #[.agg #[.int .i64 xo, .int .i64 xa, .int .i64 xb, .int .u64 xk, .string xs, u], .agg #[.int .i64 yo, .int .i64 ya, .int .i64 yb, .int .u64 yk, .string ys, v]] w fun e w' => e = .returned (.bool false) ∧ Below w.heap.size w w' := by
  go_enter Try.func159, Try.ntmps159
  go_wp2_with fail
  go_ret
  exact ⟨rfl, boxes2 _ _ _ _⟩
set_option maxRecDepth 100000 in
set_option maxHeartbeats 2000000 in
theorem sameInst_1 (xo xa xb xk yo ya yb yk : Int) (xs ys : ByteArray) (u v : Value) (w : World) (h0 : (xo == yo) = true) (h1 : (xa == ya) = false) :
    Calls Try.prog 159 #[.agg #[.int .i64 xo, .int .i64 xa, .int .i64 xb, .int .u64 xk, .string xs, u], .agg #[.int .i64 yo, .int .i64 ya, .int .i64 yb, .int .u64 yk, .string ys, v]] w fun e w' => e = .returned (.bool false) ∧ Below w.heap.size w w' := by
  go_enter Try.func159, Try.ntmps159
  go_wp2_with fail
  go_ret
  exact ⟨rfl, boxes2 _ _ _ _⟩
set_option maxRecDepth 100000 in
set_option maxHeartbeats 2000000 in
theorem sameInst_2 (xo xa xb xk yo ya yb yk : Int) (xs ys : ByteArray) (u v : Value) (w : World) (h0 : (xo == yo) = true) (h1 : (xa == ya) = true) (h2 : (xb == yb) = false) :
    Calls Try.prog 159 #[.agg #[.int .i64 xo, .int .i64 xa, .int .i64 xb, .int .u64 xk, .string xs, u], .agg #[.int .i64 yo, .int .i64 ya, .int .i64 yb, .int .u64 yk, .string ys, v]] w fun e w' => e = .returned (.bool false) ∧ Below w.heap.size w w' := by
  go_enter Try.func159, Try.ntmps159
  go_wp2_with fail
  go_ret
  exact ⟨rfl, boxes2 _ _ _ _⟩
set_option maxRecDepth 100000 in
set_option maxHeartbeats 2000000 in
theorem sameInst_3 (xo xa xb xk yo ya yb yk : Int) (xs ys : ByteArray) (u v : Value) (w : World) (h0 : (xo == yo) = true) (h1 : (xa == ya) = true) (h2 : (xb == yb) = true) (h3 : (xk == yk) = false) :
    Calls Try.prog 159 #[.agg #[.int .i64 xo, .int .i64 xa, .int .i64 xb, .int .u64 xk, .string xs, u], .agg #[.int .i64 yo, .int .i64 ya, .int .i64 yb, .int .u64 yk, .string ys, v]] w fun e w' => e = .returned (.bool false) ∧ Below w.heap.size w w' := by
  go_enter Try.func159, Try.ntmps159
  go_wp2_with fail
  go_ret
  exact ⟨rfl, boxes2 _ _ _ _⟩
set_option maxRecDepth 100000 in
set_option maxHeartbeats 2000000 in
theorem sameInst_4 (xo xa xb xk yo ya yb yk : Int) (xs ys : ByteArray) (u v : Value) (w : World) (h0 : (xo == yo) = true) (h1 : (xa == ya) = true) (h2 : (xb == yb) = true) (h3 : (xk == yk) = true) (h5 : (xs.toList == ys.toList) = false) :
    Calls Try.prog 159 #[.agg #[.int .i64 xo, .int .i64 xa, .int .i64 xb, .int .u64 xk, .string xs, u], .agg #[.int .i64 yo, .int .i64 ya, .int .i64 yb, .int .u64 yk, .string ys, v]] w fun e w' => e = .returned (.bool false) ∧ Below w.heap.size w w' := by
  go_enter Try.func159, Try.ntmps159
  go_wp2_with fail
  go_ret
  exact ⟨rfl, boxes2 _ _ _ _⟩
set_option maxRecDepth 100000 in
set_option maxHeartbeats 2000000 in
theorem sameInst_5 (xo xa xb xk yo ya yb yk : Int) (xs ys : ByteArray) (m l : List Int) (A A' : Option Addr) (n n' c c' : Nat) (w : World) (h0 : (xo == yo) = true) (h1 : (xa == ya) = true) (h2 : (xb == yb) = true) (h3 : (xk == yk) = true) (h5 : (xs.toList == ys.toList) = true)
    (hS : Ints w (.slice A n c) m) (hS' : Ints w (.slice A' n' c') l) (hn9 : n ≤ 9223372036854775807) :
    Calls Try.prog 159 #[.agg #[.int .i64 xo, .int .i64 xa, .int .i64 xb, .int .u64 xk, .string xs, .slice A n c], .agg #[.int .i64 yo, .int .i64 ya, .int .i64 yb, .int .u64 yk, .string ys, .slice A' n' c']] w fun e w' => e = .returned (.bool (decide (m = l))) ∧ Below w.heap.size w w' := by
  have HC := Lib.hid (fun (W : World) (hb : Below w.heap.size w W) => iequal_any m l A A' n n' c c' W (hS.next hb) (hS'.next hb) hn9)
  clear hS hS' hn9
  go_enter Try.func159, Try.ntmps159
  go_wp2_with fail
  refine (HC.out _ (boxes2 _ _ _ _)).mono ?_
  rintro r w1 ⟨rfl, hb⟩
  have HB := Lib.hid (bthen (boxes2 _ _ _ _) hb)
  clear hb
  go_wp2_with fail
  go_ret
  exact ⟨rfl, HB.out⟩
/-- are two instructions the same? -/
theorem sameInst_any (x y : In) (A A' : Option Addr) (c c' : Nat) (w : World) (hS : Ints w (.slice A x.l.length c) x.l) (hS' : Ints w (.slice A' y.l.length c') y.l) (hn9 : x.l.length ≤ 9223372036854775807) :
    Calls Try.prog 159 #[inV x (.slice A x.l.length c), inV y (.slice A' y.l.length c')] w fun e w' => e = .returned (.bool (sameI x y)) ∧ Below w.heap.size w w' := by
  obtain ⟨xo, xa, xb, xk, xs, m⟩ := x
  obtain ⟨yo, ya, yb, yk, ys, l⟩ := y
  unfold inV sameI
  simp only at hS hS' hn9 ⊢
  cases h0 : xo == yo
  · exact retBool (by simp) (sameInst_0 _ _ _ _ _ _ _ _ _ _ _ _ _ h0)
  cases h1 : xa == ya
  · exact retBool (by simp) (sameInst_1 _ _ _ _ _ _ _ _ _ _ _ _ _ h0 h1)
  cases h2 : xb == yb
  · exact retBool (by simp) (sameInst_2 _ _ _ _ _ _ _ _ _ _ _ _ _ h0 h1 h2)
  cases h3 : xk == yk
  · exact retBool (by simp) (sameInst_3 _ _ _ _ _ _ _ _ _ _ _ _ _ h0 h1 h2 h3)
  cases h4 : xs == ys
  · exact retBool (by simp) (sameInst_4 _ _ _ _ _ _ _ _ _ _ _ _ _ h0 h1 h2 h3 (by rw [← beq_toListBytes]; exact h4))
  exact retBool (by simp) (sameInst_5 _ _ _ _ _ _ _ _ _ _ m l A A' _ _ _ _ w h0 h1 h2 h3 (by rw [← beq_toListBytes]; exact h4) hS hS' hn9)
end Go.Proofs.Ytcfniagmnkngfaa

namespace Go.Proofs.Ytcfniagmnkngfaa
open Go.ChangeShapes Go.WideShapes Go.ChangeAt Go.RowKit Go.Deep Go.Joins

section
variable {H : Type} {enc : TypeId × Value → H}
/-- a row that came in, opened: whatever its elements are -/
theorem open_row {α : Type} {t e : TypeId} {sz : Nat} (P : World → Nat → Nat → α → Prop) (ok : α → Prop) {W : World} {base : Nat} {spare : Nat → Bool} {held : Bool} {c : Value} {fuel : Nat} {y : DataW H × List MemPlace}
    (ht : Try.prog.underlying t = some (.slice e)) (hsz : Try.prog.cellsOf e = sz) (hpos : 0 < sz)
    (hel : ∀ (n b off : Nat) (cs : List Value) (y : DataW H × List MemPlace), (∀ j, j < sz → W.cell? ⟨b, off + j, none⟩ = cs[j]?) → cs.length = sz → DataW.trod enc Try.prog W base spare held n e cs = some y → ∃ x, ok x ∧ P W b off x)
    (h : DataW.trod enc Try.prog W base spare held fuel t [c] = some y) :
    ∃ (A : Option Addr) (cap : Nat) (l : List α), c = .slice A l.length cap ∧ RowOf sz P W c l ∧ (∀ x ∈ l, ok x) ∧ l.length ≤ cap ∧ cap ≤ maxLen := by
  rcases open_slice ht h with ⟨h1, _⟩ | ⟨a, len, cap, m, n, D, Pl, hcs, _, hl, hm, hmm, _, hat⟩
  · simp only [List.cons.injEq, and_true] at h1
    subst h1
    exact ⟨none, 0, [], rfl, .inl ⟨rfl, .inl rfl⟩, by simp, Nat.le_refl _, by unfold maxLen; omega⟩
  · simp only [List.cons.injEq, and_true] at hcs
    subst hcs
    have hlm : len ≤ m := by rw [hmm]; split <;> omega
    by_cases h0 : 0 < len
    · obtain ⟨b, off, spot⟩ := a
      have hspot : spot = none ∧ b < W.heap.size := by
        obtain ⟨cs', hc, ht⟩ := hat 0 (by omega)
        rw [hsz] at hc
        obtain ⟨_, hcl, hca⟩ := World.cells?_some hc
        have k0 := hca 0 hpos
        have hl0 : cs'[0]? = some (cs'[0]'(by omega)) := List.getElem?_eq_getElem (by omega)
        rw [hl0] at k0
        have hb := World.block_lt_of_cell? W _ k0
        refine ⟨by simpa [Addr.add] using World.cell?_spot k0, ?_⟩
        revert hb
        unfold Addr.add
        (repeat' split) <;> simp
      obtain ⟨rfl, hb⟩ := hspot
      have cells : ∀ i, i < len → ∃ x, ok x ∧ P W b (off + i * sz) x := fun i hi => by
        obtain ⟨cs', hc, ht⟩ := hat i (by omega)
        rw [hsz] at hc
        obtain ⟨_, hcl, hca⟩ := World.cells?_some hc
        refine hel n b (off + i * sz) cs' _ (fun j hj => ?_) hcl ht
        have k := hca j hj
        rwa [add_add, add_plain, ← Nat.add_assoc] at k
      obtain ⟨f, hf⟩ : ∃ f : Nat → α, ∀ i, i < len → ok (f i) ∧ P W b (off + i * sz) (f i) :=
        ⟨fun i => if hi : i < len then Classical.choose (cells i hi) else Classical.choose (cells 0 h0), fun i hi => by
          simp only [dif_pos hi]
          exact Classical.choose_spec (cells i hi)⟩
      refine ⟨some ⟨b, off, none⟩, cap, (List.range len).map f, by simp, .inr ⟨by simp; exact h0, b, off, cap, by simp, hb, fun i hi => ?_⟩, fun x hx => ?_, by simpa using hl, hm⟩
      · rw [List.getElem_map, List.getElem_range]
        exact (hf i (by simpa using hi)).2
      · obtain ⟨i, hi, rfl⟩ := List.mem_map.1 hx
        exact (hf i (List.mem_range.1 hi)).1
    · obtain rfl : len = 0 := by omega
      exact ⟨_, _, [], rfl, .inl ⟨rfl, .inr ⟨_, _, rfl⟩⟩, by simp, hl, hm⟩
end
end Go.Proofs.Ytcfniagmnkngfaa
