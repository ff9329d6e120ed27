/- What the texts of package resolve stand on, of the packages ir and pick (part 3). -/
import Derived.Test.YtjldddpchiaalaaHU1
namespace Go.Proofs.Ytjldddpchiaalaa
open Go.RowKit
/-- a module -/
structure Md where
  f : List Fn
  g : List Gl
def globB (g : Gl) : Bool := nameB g.s && (decide (1 ≤ g.b) && decide (g.b ≤ 3)) && (g.h || (g.i == 0 && !(g.b == 1)))
def aloneB (m : Md) : Bool := m.f.all funcB && m.g.all globB
def namesM (m : Md) : List ByteArray := m.f.map (·.s) ++ m.g.map (·.s)
def insF (f : Fn) : List In := (f.l.map (·.i)).flatten
def insM (m : Md) : List In := (m.f.map insF).flatten
/-- an instruction that names what there isn't -/
def noneI (m : Md) (i : In) : Bool := (i.o == 14 && !(m.f.any fun f => f.s == i.s)) || ((i.o == 12 || i.o == 13) && !(m.g.any fun g => g.s == i.s))
/-- an instruction that hands on another number of values than is asked for -/
def oddI (m : Md) (i : In) : Bool := i.o == 14 && (match m.f.find? (fun f => f.s == i.s) with | some f => !(f.p == i.l.length) | none => false)
def foundE (m : Md) : Int := if (insM m).any (noneI m) then 8 else if (insM m).any (oddI m) then 1 else 0
def checkE (m : Md) : Int := if 16 < m.f.length ∨ 16 < m.g.length then 4 else if aloneB m = false then 10 else if ¬ (namesM m).Nodup then 9 else foundE m
/-- an instruction, with how many values are ahead of it, and the slice of its values -/
structure It where
  n : Int
  i : In
  v : Value
def ItAt (W : World) (b off : Nat) (x : It) : Prop :=
  W.cell? ⟨b, off, none⟩ = some (.int .i64 x.i.o) ∧ W.cell? ⟨b, off + 1, none⟩ = some (.int .i64 x.i.a) ∧ W.cell? ⟨b, off + 2, none⟩ = some (.int .i64 x.i.b) ∧ W.cell? ⟨b, off + 3, none⟩ = some (.int .u64 x.i.k) ∧ W.cell? ⟨b, off + 4, none⟩ = some (.string x.i.s) ∧
    W.cell? ⟨b, off + 5, none⟩ = some x.v ∧ (∃ A cap, x.v = .slice A x.i.l.length cap) ∧ Ints W x.v x.i.l
theorem ItAt.next (W W' : World) (b off : Nat) (x : It) (hb : b < W.heap.size) (h : Below W.heap.size W W') (hx : ItAt W b off x) : ItAt W' b off x := by
  obtain ⟨h0, h1, h2, h3, h4, h5, h6, h7⟩ := hx
  exact ⟨(cellNext hb h _).trans h0, (cellNext hb h _).trans h1, (cellNext hb h _).trans h2, (cellNext hb h _).trans h3, (cellNext hb h _).trans h4, (cellNext hb h _).trans h5, h6, h7.next h⟩
def Its : World → Value → List It → Prop := RowOf 6 ItAt
theorem Its.next {W W' : World} {v : Value} {l : List It} (h : Its W v l) (hb : Below W.heap.size W W') : Its W' v l := RowOf.next ItAt.next h hb
theorem its_of {W : World} {v : Value} {l : List In} (p : Int) (h : Insts W v l) : ∃ t : List It, Its W v t ∧ t.map (·.i) = l ∧ ∀ (j : Nat) (hj : j < t.length), t[j].n = wrap64 (p + j) := by
  rcases h with ⟨rfl, h⟩ | ⟨h0, b, off, cap, rfl, h1, h2⟩
  · exact ⟨[], .inl ⟨rfl, h⟩, rfl, fun j hj => by simp at hj⟩
  · have hv : ∀ j, ∃ u : Value, ∀ (hj : j < l.length), W.cell? ⟨b, off + j * 6 + 5, none⟩ = some u ∧ (∃ A cap, u = .slice A l[j].l.length cap) ∧ Ints W u l[j].l := fun j => by
      by_cases hj : j < l.length
      · obtain ⟨_, _, _, _, _, A, c, h5, h6⟩ := h2 j hj
        exact ⟨_, fun _ => ⟨h5, ⟨A, c, rfl⟩, h6⟩⟩
      · exact ⟨.bool false, fun h => absurd h hj⟩
    obtain ⟨u, hu⟩ : ∃ u : Nat → Value, ∀ j, ∀ (hj : j < l.length), W.cell? ⟨b, off + j * 6 + 5, none⟩ = some (u j) ∧ (∃ A cap, u j = .slice A l[j].l.length cap) ∧ Ints W (u j) l[j].l := ⟨fun j => Classical.choose (hv j), fun j => Classical.choose_spec (hv j)⟩
    refine ⟨l.mapIdx (fun j i => ⟨wrap64 (p + j), i, u j⟩), .inr ⟨by simpa using h0, b, off, cap, by simp, h1, fun j hj => ?_⟩, ?_, fun j hj => by simp⟩
    · have hj' : j < l.length := by simpa using hj
      obtain ⟨c0, c1, c2, c3, c4, -⟩ := h2 j hj'
      obtain ⟨c5, c6, c7⟩ := hu j hj'
      rw [List.getElem_mapIdx]
      exact ⟨c0, c1, c2, c3, c4, c5, c6, c7⟩
    · apply List.ext_getElem
      · simp
      · intro j h1 h2
        simp
/-- the blocks' instructions, each as it is handed on -/
def BlkIts (W : World) (v : Value) (l : List Bk) (ts : List (List It)) : Prop :=
  Blocks W v l ∧ ts.length = l.length ∧ ∀ (k : Nat) (h : k < l.length) (h' : k < ts.length), ∃ b off cap A c, v = .slice (some ⟨b, off, none⟩) l.length cap ∧ b < W.heap.size ∧ BkAt W b (off + k * 8) l[k] ∧ W.cell? ⟨b, off + k * 8 + 1, none⟩ = some (.slice A l[k].i.length c) ∧
    Its W (.slice A l[k].i.length c) ts[k] ∧ ts[k].map (·.i) = l[k].i ∧ ∀ (j : Nat) (hj : j < ts[k].length), ts[k][j].n = wrap64 (l[k].p + j)
theorem blkIts_of {W : World} {v : Value} {l : List Bk} (h : Blocks W v l) : ∃ ts, BlkIts W v l ts := by
  have h' := h
  rcases h with ⟨rfl, h⟩ | ⟨h0, b, off, cap, rfl, h1, h2⟩
  · exact ⟨[], h', rfl, fun k hk _ => by simp at hk⟩
  · have hv : ∀ k, ∃ t : List It, ∀ (hk : k < l.length), ∃ A c, W.cell? ⟨b, off + k * 8 + 1, none⟩ = some (.slice A l[k].i.length c) ∧ Its W (.slice A l[k].i.length c) t ∧ t.map (·.i) = l[k].i ∧ ∀ (j : Nat) (hj : j < t.length), t[j].n = wrap64 (l[k].p + j) := fun k => by
      by_cases hk : k < l.length
      · obtain ⟨_, ⟨A, c, g1, g2⟩, _⟩ := h2 k hk
        obtain ⟨t, t1, t2, t3⟩ := its_of l[k].p g2
        exact ⟨t, fun _ => ⟨A, c, g1, t1, t2, t3⟩⟩
      · exact ⟨[], fun h => absurd h hk⟩
    obtain ⟨u, hu⟩ : ∃ u : Nat → List It, ∀ k, ∀ (hk : k < l.length), ∃ A c, W.cell? ⟨b, off + k * 8 + 1, none⟩ = some (.slice A l[k].i.length c) ∧ Its W (.slice A l[k].i.length c) (u k) ∧ (u k).map (·.i) = l[k].i ∧ ∀ (j : Nat) (hj : j < (u k).length), (u k)[j].n = wrap64 (l[k].p + j) := ⟨fun k => Classical.choose (hv k), fun k => Classical.choose_spec (hv k)⟩
    refine ⟨(List.range l.length).map u, h', by simp, fun k hk hk' => ?_⟩
    obtain ⟨A, c, g1, g2, g3, g4⟩ := hu k hk
    rw [List.getElem_map, List.getElem_range]
    exact ⟨b, off, cap, A, c, rfl, h1, h2 k hk, g1, g2, g3, g4⟩
theorem BlkIts.next {W W' : World} {v : Value} {l : List Bk} {ts : List (List It)} (h : BlkIts W v l ts) (hb : Below W.heap.size W W') : BlkIts W' v l ts := by
  refine ⟨h.1.next hb, h.2.1, fun k hk hk' => ?_⟩
  obtain ⟨b, off, cap, A, c, e, hbl, h1, h2, h3, h4⟩ := h.2.2 k hk hk'
  exact ⟨b, off, cap, A, c, e, Nat.lt_of_lt_of_le hbl hb.size, BkAt.next _ _ _ _ _ hbl hb h1, (cellNext hbl hb _).trans h2, h3.next hb, h4⟩
theorem BlkIts.ins {W : World} {v : Value} {l : List Bk} {ts : List (List It)} (h : BlkIts W v l ts) : ts.flatten.map (·.i) = (l.map (·.i)).flatten := by
  rw [List.map_flatten]
  congr 1
  apply List.ext_getElem
  · simpa using h.2.1
  · intro k h1 h2
    have hk : k < l.length := by simpa using h2
    have hk' : k < ts.length := by simpa using h1
    obtain ⟨_, _, _, _, _, _, _, _, _, _, e, _⟩ := h.2.2 k hk hk'
    simpa using e
theorem Its.all {W : World} {v : Value} {t : List It} (h : Its W v t) : ∀ x ∈ t, (∃ A cap, x.v = .slice A x.i.l.length cap) ∧ Ints W x.v x.i.l := by
  intro x hx
  obtain ⟨j, hj, rfl⟩ := List.getElem_of_mem hx
  rcases h with ⟨rfl, -⟩ | ⟨_, _, _, _, _, _, h⟩
  · simp at hj
  · exact (h j hj).2.2.2.2.2.2
theorem BlkIts.all {W : World} {v : Value} {l : List Bk} {ts : List (List It)} (h : BlkIts W v l ts) : ∀ x ∈ ts.flatten, (∃ A cap, x.v = .slice A x.i.l.length cap) ∧ Ints W x.v x.i.l := by
  intro x hx
  obtain ⟨t, ht, hxt⟩ := List.mem_flatten.1 hx
  obtain ⟨k, hk, rfl⟩ := List.getElem_of_mem ht
  obtain ⟨_, _, _, _, _, _, _, _, _, g, _⟩ := h.2.2 k (by rw [← h.2.1]; exact hk) hk
  exact g.all x hxt
theorem instsB_its : ∀ (t : List It) (p : Int), (∀ (j : Nat) (hj : j < t.length), t[j].n = p + j) → instsB p (t.map (·.i)) = t.all (fun x => instB x.n x.i)
  | [], _, _ => rfl
  | x :: t, p, h => by
    rw [List.map_cons, List.all_cons, instsB]
    have h0 := h 0 (by simp)
    simp only [List.getElem_cons_zero] at h0
    rw [h0, instsB_its t (p + 1) (fun j hj => by
      have := h (j + 1) (by simp; omega)
      simp only [List.getElem_cons_succ] at this
      rw [this]; omega)]
    simp
end Go.Proofs.Ytjldddpchiaalaa
namespace Go.Proofs.Ytjldddpchiaalaa
open Go.RowKit
theorem values_any (p k a t e : Int) (A : Option Addr) (n cap : Nat) (vl vm : Value) (w : World) :
    Calls Try.prog 87 #[.agg #[.int .i64 p, .slice A n cap, .int .i64 k, .int .i64 a, .int .i64 t, vl, .int .i64 e, vm]] w fun r w' => r = .returned (.int .i64 (wrap64 (p + n))) ∧ Below w.heap.size w w' := by
  go_enter Try.func87, Try.ntmps87
  go_wp2_with fail
  go_ret
  exact ⟨rfl, balloc (Below.refl _ w) _⟩
theorem one_int (w : World) (x : Int) : Ints (w.alloc (.cells #[.int .i64 x] 3)) (.slice (some ⟨w.heap.size, 0, none⟩) 1 1) [x] :=
  .inr ⟨by simp, w.heap.size, 0, 1, rfl, by simp, fun i hi => by
    have h : i = 0 := by simpa using hi
    subst h
    rw [Lib.cell_of_heap (heap_alloc_new w _)]
    rfl⟩
theorem among_one (n x : Int) : amongB n [x] = (decide (0 ≤ x) && decide (x < n)) := by simp [amongB]
set_option maxRecDepth 100000 in
set_option maxHeartbeats 2000000 in
theorem goes_no (all : List Bk) (tt : Int) (B N : Nat) (C : Option Addr) (c : Nat) (v : Value) (w : World) (hB : w.cell? ⟨B, 0, none⟩ = some (.slice C all.length c))
    (h : amongB all.length [tt] = false) :
    Calls Try.prog 88 #[.int .i64 tt, v, .pointer (some ⟨B, 0, none⟩), .pointer (some ⟨N, 0, none⟩)] w fun e w' => e = .returned (.bool false) ∧ Below w.heap.size w w' := by
  have HA := Lib.hid (fun (W : World) => among_any all.length [tt] (some ⟨w.heap.size, 0, none⟩) 1 1 (w.alloc (.cells #[.int .i64 tt] 3)) (one_int w tt) (by omega))
  rw [h] at HA
  clear h
  go_enter Try.func88, Try.ntmps88
  go_wp2_with fail
  refine (HA.out w).mono ?_
  rintro r w1 ⟨rfl, hb⟩
  have HB := Lib.hid (bthen (balloc (Below.refl _ w) _) hb)
  clear hb
  go_wp2_with fail
  go_ret
  exact ⟨rfl, HB.out⟩
set_option maxRecDepth 100000 in
set_option maxHeartbeats 2000000 in
theorem goes_in (all : List Bk) (n : Int) (i : Nat) (l : List Int) (B N : Nat) (C A : Option Addr) (c cap : Nat) (w : World) (hB : w.cell? ⟨B, 0, none⟩ = some (.slice C all.length c)) (hN : w.cell? ⟨N, 0, none⟩ = some (.int .i64 n)) (_hc : all.length ≤ 9223372036854775807)
    (hS : Blocks w (.slice C all.length c) all) (hl : Ints w (.slice A l.length cap) l) (hl9 : l.length ≤ 9223372036854775807) (hi : i < all.length) :
    Calls Try.prog 88 #[.int .i64 i, .slice A l.length cap, .pointer (some ⟨B, 0, none⟩), .pointer (some ⟨N, 0, none⟩)] w fun e w' => e = .returned (.bool ((l.length : Int) == all[i].p && amongB n l)) ∧ Below w.heap.size w w' := by
  have hBl := World.block_lt_of_cell? w _ hB
  have hNl := World.block_lt_of_cell? w _ hN
  have HA := Lib.hid (fun (W : World) => among_any all.length [(i : Int)] (some ⟨w.heap.size, 0, none⟩) 1 1 (w.alloc (.cells #[.int .i64 (i : Int)] 3)) (one_int w i) (by omega))
  rw [show amongB all.length [(i : Int)] = true by rw [among_one]; simp; omega] at HA
  have HL := Lib.hid (fun (W : World) (hb : Below w.heap.size w W) => among_any n l A l.length cap W (hl.next hb) hl9)
  obtain ⟨b, off, hC, hbl, c0, -⟩ := hS.at_ hi
  subst hC
  obtain ⟨p, hp⟩ : ∃ p, all[i].p = p := ⟨_, rfl⟩
  rw [hp] at c0 ⊢
  have i0 : (0 : Int) ≤ (i : Int) := by omega
  have i1 : (i : Int) < (all.length : Int) := by omega
  obtain ⟨m, hm⟩ : ∃ m, all.length = m := ⟨_, rfl⟩
  rw [hm] at hB _hc HA i1
  have HC := Lib.hid (fun (W : World) (hb : Below w.heap.size w W) => (⟨(cellNext hBl hb 0).trans hB, (cellNext hNl hb 0).trans hN, (cellNext hbl hb _).trans c0⟩ : W.cell? ⟨B, 0, none⟩ = some (.slice (some ⟨b, off, none⟩) m c) ∧ W.cell? ⟨N, 0, none⟩ = some (.int .i64 n) ∧ W.cell? ⟨b, off + i * 8, none⟩ = some (.int .i64 p)))
  clear hS hl hm hp hi hN c0 hBl hNl hbl
  go_enter Try.func88, Try.ntmps88
  go_wp2_with fail
  refine (HA.out w).mono ?_
  rintro r w1 ⟨rfl, hb⟩
  have HB := Lib.hid (bthen (balloc (Below.refl _ w) _) hb)
  clear hb hB
  obtain ⟨k0, k1, k2⟩ := HC.out _ HB.out
  by_cases he : (l.length : Int) = p
  · have e1 : ((l.length : Int) == p) = true := by simpa using he
    have HE := Lib.hid e1
    clear he
    go_wp2_with fail
    refine (HL.out _ HB.out).mono ?_
    rintro r w2 ⟨rfl, hb⟩
    have HB2 := Lib.hid (bthen HB.out hb)
    clear hb
    go_wp2_with fail
    go_ret
    exact ⟨by rw [HE.out]; rfl, HB2.out⟩
  · have e1 : ((l.length : Int) == p) = false := by simpa using he
    have HE := Lib.hid e1
    clear he
    go_wp2_with fail
    go_ret
    exact ⟨by rw [HE.out]; rfl, HB.out⟩
/-- may a block go to one of these, with so many values, with these? -/
theorem goes_any (all : List Bk) (n tt : Int) (l : List Int) (B N : Nat) (C A : Option Addr) (c cap : Nat) (w : World) (hB : w.cell? ⟨B, 0, none⟩ = some (.slice C all.length c)) (hN : w.cell? ⟨N, 0, none⟩ = some (.int .i64 n)) (hc : all.length ≤ 9223372036854775807)
    (hS : Blocks w (.slice C all.length c) all) (hl : Ints w (.slice A l.length cap) l) (hl9 : l.length ≤ 9223372036854775807) :
    Calls Try.prog 88 #[.int .i64 tt, .slice A l.length cap, .pointer (some ⟨B, 0, none⟩), .pointer (some ⟨N, 0, none⟩)] w fun e w' => e = .returned (.bool (goesB all n tt l)) ∧ Below w.heap.size w w' := by
  cases h : amongB all.length [tt] with
  | false =>
    have e : goesB all n tt l = false := by
      rw [among_one] at h
      unfold goesB
      rw [h]
      simp
    rw [e]
    exact goes_no all tt B N C c _ w hB h
  | true =>
    rw [among_one] at h
    simp only [Bool.and_eq_true, decide_eq_true_eq] at h
    obtain ⟨i, rfl⟩ := Int.eq_ofNat_of_zero_le h.1
    have hi : i < all.length := by omega
    have e : goesB all n (i : Int) l = ((l.length : Int) == all[i].p && amongB n l) := by
      unfold goesB
      rw [decide_eq_true h.1, decide_eq_true h.2, Int.toNat_natCast, List.getElem?_eq_getElem hi]
      simp
    rw [e]
    exact goes_in all n i l B N C A c cap w hB hN hc hS hl hl9 hi
end Go.Proofs.Ytjldddpchiaalaa
namespace Go.Proofs.Ytjldddpchiaalaa
open Go.RowKit
set_option maxRecDepth 100000 in
set_option maxHeartbeats 4000000 in
theorem iequal_any (m k : List Int) (A A' : Option Addr) (n n' cap cap' : Nat) (w : World) (hS : Ints w (.slice A n cap) m) (hS' : Ints w (.slice A' n' cap') k) (hn9 : n ≤ 9223372036854775807) :
    Calls Try.prog 95 #[.slice A n cap, .slice A' n' cap'] w fun e w' => e = .returned (.bool (decide (m = k))) ∧ Below w.heap.size w w' := by
  have hn := hS.len
  have hn' := hS'.len
  by_cases hne : n = n'
  · subst hne
    have HS := Lib.hid hS
    have HS' := Lib.hid hS'
    have HN := Lib.hid hn
    have HN' := Lib.hid hn'
    have n1 : (n : Int) ≤ 9223372036854775807 := by omega
    clear hS hS' hn hn' hn9
    go_enter Try.func95, Try.ntmps95
    go_wp2_with fail
    go_loopw [13] (fun iv wr => ∃ i : Nat, i ≤ n ∧ iv = .int .i64 i ∧ m.take i = k.take i ∧ Below w.heap.size w wr) (fun iv _ => n - (intOf iv).toNat)
    case atStart => exact ⟨0, Nat.zero_le _, rfl, by simp, Below.refl _ _⟩
    case round =>
      obtain ⟨i, hi, rfl, hs, hb⟩ := hrel
      have HB := Lib.hid hb
      have HT := Lib.hid hs
      clear hb hs
      by_cases hlt : i < n
      · have hm : i < m.length := by rw [HN.out]; exact hlt
        have hk : i < k.length := by rw [HN'.out]; exact hlt
        obtain ⟨b, off, hA, e0⟩ := (HS.out.next HB.out).at_ hm
        obtain ⟨b', off', hA', g0⟩ := (HS'.out.next HB.out).at_ hk
        subst hA hA'
        have HDIF := Lib.hid (show m[i] ≠ k[i] → decide (m = k) = false from fun h => by
          rw [decide_eq_false_iff_not]
          rintro rfl
          exact h rfl)
        have HSAME := Lib.hid (show m[i] = k[i] → m.take (i + 1) = k.take (i + 1) from fun e => by
          rw [List.take_succ_eq_append_getElem hm, List.take_succ_eq_append_getElem hk, HT.out, e])
        obtain ⟨x, hx⟩ : ∃ x, m[i] = x := ⟨_, rfl⟩
        obtain ⟨y, hy⟩ : ∃ x, k[i] = x := ⟨_, rfl⟩
        rw [hx] at e0 HDIF HSAME
        rw [hy] at g0 HDIF HSAME
        clear hx hy hm hk
        have HLT := Lib.hid hlt
        have i0 : (0 : Int) ≤ (i : Int) := by omega
        have i1 : (i : Int) < (n : Int) := by omega
        clear hlt
        by_cases hxy : x = y
        · subst hxy
          have HNX := Lib.hid (HSAME.out rfl)
          clear HDIF HSAME
          go_wp2_with fail
          go_quiet (fail)
          have HB2 := Lib.hid (bthen HB.out (drewN_below' _ nq))
          clear e0 g0
          generalize wr.drewN nq = wz at *
          go_wp2_with fail
          go_roundw
          case rel => exact ⟨i + 1, HLT.out, by go_num, HNX.out, HB2.out⟩
          case measure => have := HLT.out; simp [intOf]; omega
        · have q1 : (x != y) = true := by simpa using hxy
          have HNX := Lib.hid (HDIF.out hxy)
          clear HDIF HSAME hxy
          go_wp2_with fail
          go_quiet (fail)
          have HB2 := Lib.hid (bthen HB.out (drewN_below' _ nq))
          clear e0 g0
          generalize wr.drewN nq = wz at *
          go_wp2_with fail
          go_ret
          exact ⟨by rw [HNX.out]; rfl, HB2.out⟩
      · have i1 : ¬ (i : Int) < (n : Int) := by omega
        have HF := Lib.hid (show decide (m = k) = true by
          rw [decide_eq_true_iff]
          have h := HT.out
          rwa [List.take_of_length_le (by have := HN.out; omega), List.take_of_length_le (by have := HN'.out; omega)] at h)
        clear hlt
        go_wp2_with fail
        go_ret
        exact ⟨by rw [HF.out]; rfl, HB.out⟩
  · have e1 : ((n : Int) != (n' : Int)) = true := by simp; omega
    have HF := Lib.hid (show decide (m = k) = false by
      rw [decide_eq_false_iff_not]
      rintro rfl
      omega)
    clear hS hS' hn hn' hn9 hne
    go_enter Try.func95, Try.ntmps95
    go_wp2_with fail
    go_ret
    exact ⟨by rw [HF.out]; rfl, Below.refl _ _⟩
end Go.Proofs.Ytjldddpchiaalaa
namespace Go.Proofs.Ytjldddpchiaalaa
open Go.RowKit
theorem retBool {f : FuncId} {args : Array Value} {w : World} {c d : Bool} (h : c = d) (r : Calls Try.prog f args w fun e w' => e = .returned (.bool c) ∧ Below w.heap.size w w') :
    Calls Try.prog f args w fun e w' => e = .returned (.bool d) ∧ Below w.heap.size w w' := h ▸ r
/-- two boxes of a call -/
theorem boxes2 (w : World) (cs ds : Array Value) (t : TypeId) : Below w.heap.size w ((w.alloc (.cells cs t)).alloc (.cells ds t)) := balloc (balloc (Below.refl _ w) _) _
set_option maxRecDepth 100000 in
set_option maxHeartbeats 2000000 in
theorem sameInst_0 (xo xa xb xk yo ya yb yk : Int) (xs ys : ByteArray) (u v : Value) (w : World) (h0 : (xo == yo) = false) :
    Calls Try.prog 91 #[.agg #[.int .i64 xo, .int .i64 xa, .int .i64 xb, .int .u64 xk, .string xs, u], .agg #[.int .i64 yo, .int .i64 ya, .int .i64 yb, .int .u64 yk, .string ys, v]] w fun e w' => e = .returned (.bool false) ∧ Below w.heap.size w w' := by
  go_enter Try.func91, Try.ntmps91
  go_wp2_with fail
  go_ret
  exact ⟨rfl, boxes2 _ _ _ _⟩
set_option maxRecDepth 100000 in
set_option maxHeartbeats 2000000 in
theorem sameInst_1 (xo xa xb xk yo ya yb yk : Int) (xs ys : ByteArray) (u v : Value) (w : World) (h0 : (xo == yo) = true) (h1 : (xa == ya) = false) :
    Calls Try.prog 91 #[.agg #[.int .i64 xo, .int .i64 xa, .int .i64 xb, .int .u64 xk, .string xs, u], .agg #[.int .i64 yo, .int .i64 ya, .int .i64 yb, .int .u64 yk, .string ys, v]] w fun e w' => e = .returned (.bool false) ∧ Below w.heap.size w w' := by
  go_enter Try.func91, Try.ntmps91
  go_wp2_with fail
  go_ret
  exact ⟨rfl, boxes2 _ _ _ _⟩
set_option maxRecDepth 100000 in
set_option maxHeartbeats 2000000 in
theorem sameInst_2 (xo xa xb xk yo ya yb yk : Int) (xs ys : ByteArray) (u v : Value) (w : World) (h0 : (xo == yo) = true) (h1 : (xa == ya) = true) (h2 : (xb == yb) = false) :
    Calls Try.prog 91 #[.agg #[.int .i64 xo, .int .i64 xa, .int .i64 xb, .int .u64 xk, .string xs, u], .agg #[.int .i64 yo, .int .i64 ya, .int .i64 yb, .int .u64 yk, .string ys, v]] w fun e w' => e = .returned (.bool false) ∧ Below w.heap.size w w' := by
  go_enter Try.func91, Try.ntmps91
  go_wp2_with fail
  go_ret
  exact ⟨rfl, boxes2 _ _ _ _⟩
set_option maxRecDepth 100000 in
set_option maxHeartbeats 2000000 in
theorem sameInst_3 (xo xa xb xk yo ya yb yk : Int) (xs ys : ByteArray) (u v : Value) (w : World) (h0 : (xo == yo) = true) (h1 : (xa == ya) = true) (h2 : (xb == yb) = true) (h3 : (xk == yk) = false) :
    Calls Try.prog 91 #[.agg #[.int .i64 xo, .int .i64 xa, .int .i64 xb, .int .u64 xk, .string xs, u], .agg #[.int .i64 yo, .int .i64 ya, .int .i64 yb, .int .u64 yk, .string ys, v]] w fun e w' => e = .returned (.bool false) ∧ Below w.heap.size w w' := by
  go_enter Try.func91, Try.ntmps91
  go_wp2_with fail
  go_ret
  exact ⟨rfl, boxes2 _ _ _ _⟩
set_option maxRecDepth 100000 in
set_option maxHeartbeats 2000000 in
theorem sameInst_4 (xo xa xb xk yo ya yb yk : Int) (xs ys : ByteArray) (u v : Value) (w : World) (h0 : (xo == yo) = true) (h1 : (xa == ya) = true) (h2 : (xb == yb) = true) (h3 : (xk == yk) = true) (h5 : (xs.toList == ys.toList) = false) :
    Calls Try.prog 91 #[.agg #[.int .i64 xo, .int .i64 xa, .int .i64 xb, .int .u64 xk, .string xs, u], .agg #[.int .i64 yo, .int .i64 ya, .int .i64 yb, .int .u64 yk, .string ys, v]] w fun e w' => e = .returned (.bool false) ∧ Below w.heap.size w w' := by
  go_enter Try.func91, Try.ntmps91
  go_wp2_with fail
  go_ret
  exact ⟨rfl, boxes2 _ _ _ _⟩
set_option maxRecDepth 100000 in
set_option maxHeartbeats 2000000 in
theorem sameInst_5 (xo xa xb xk yo ya yb yk : Int) (xs ys : ByteArray) (m l : List Int) (A A' : Option Addr) (n n' c c' : Nat) (w : World) (h0 : (xo == yo) = true) (h1 : (xa == ya) = true) (h2 : (xb == yb) = true) (h3 : (xk == yk) = true) (h5 : (xs.toList == ys.toList) = true)
    (hS : Ints w (.slice A n c) m) (hS' : Ints w (.slice A' n' c') l) (hn9 : n ≤ 9223372036854775807) :
    Calls Try.prog 91 #[.agg #[.int .i64 xo, .int .i64 xa, .int .i64 xb, .int .u64 xk, .string xs, .slice A n c], .agg #[.int .i64 yo, .int .i64 ya, .int .i64 yb, .int .u64 yk, .string ys, .slice A' n' c']] w fun e w' => e = .returned (.bool (decide (m = l))) ∧ Below w.heap.size w w' := by
  have HC := Lib.hid (fun (W : World) (hb : Below w.heap.size w W) => iequal_any m l A A' n n' c c' W (hS.next hb) (hS'.next hb) hn9)
  clear hS hS' hn9
  go_enter Try.func91, Try.ntmps91
  go_wp2_with fail
  refine (HC.out _ (boxes2 _ _ _ _)).mono ?_
  rintro r w1 ⟨rfl, hb⟩
  have HB := Lib.hid (bthen (boxes2 _ _ _ _) hb)
  clear hb
  go_wp2_with fail
  go_ret
  exact ⟨rfl, HB.out⟩
/-- are two instructions the same? -/
theorem sameInst_any (x y : In) (A A' : Option Addr) (c c' : Nat) (w : World) (hS : Ints w (.slice A x.l.length c) x.l) (hS' : Ints w (.slice A' y.l.length c') y.l) (hn9 : x.l.length ≤ 9223372036854775807) :
    Calls Try.prog 91 #[inV x (.slice A x.l.length c), inV y (.slice A' y.l.length c')] w fun e w' => e = .returned (.bool (sameI x y)) ∧ Below w.heap.size w w' := by
  obtain ⟨xo, xa, xb, xk, xs, m⟩ := x
  obtain ⟨yo, ya, yb, yk, ys, l⟩ := y
  unfold inV sameI
  simp only at hS hS' hn9 ⊢
  cases h0 : xo == yo
  · exact retBool (by simp) (sameInst_0 _ _ _ _ _ _ _ _ _ _ _ _ _ h0)
  cases h1 : xa == ya
  · exact retBool (by simp) (sameInst_1 _ _ _ _ _ _ _ _ _ _ _ _ _ h0 h1)
  cases h2 : xb == yb
  · exact retBool (by simp) (sameInst_2 _ _ _ _ _ _ _ _ _ _ _ _ _ h0 h1 h2)
  cases h3 : xk == yk
  · exact retBool (by simp) (sameInst_3 _ _ _ _ _ _ _ _ _ _ _ _ _ h0 h1 h2 h3)
  cases h4 : xs == ys
  · exact retBool (by simp) (sameInst_4 _ _ _ _ _ _ _ _ _ _ _ _ _ h0 h1 h2 h3 (by rw [← beq_toListBytes]; exact h4))
  exact retBool (by simp) (sameInst_5 _ _ _ _ _ _ _ _ _ _ m l A A' _ _ _ _ w h0 h1 h2 h3 (by rw [← beq_toListBytes]; exact h4) hS hS' hn9)
end Go.Proofs.Ytjldddpchiaalaa
namespace Go.Proofs.Ytjldddpchiaalaa
open Go.ChangeShapes Go.WideShapes Go.ChangeAt Go.RowKit Go.Deep Go.Joins
section
variable {H : Type} {enc : TypeId × Value → H}
/-- a row that came in, opened: whatever its elements are -/
theorem open_row {α : Type} {t e : TypeId} {sz : Nat} (P : World → Nat → Nat → α → Prop) (ok : α → Prop) {W : World} {base : Nat} {spare : Nat → Bool} {held : Bool} {c : Value} {fuel : Nat} {y : DataW H × List MemPlace}
    (ht : Try.prog.underlying t = some (.slice e)) (hsz : Try.prog.cellsOf e = sz) (hpos : 0 < sz)
    (hel : ∀ (n b off : Nat) (cs : List Value) (y : DataW H × List MemPlace), (∀ j, j < sz → W.cell? ⟨b, off + j, none⟩ = cs[j]?) → cs.length = sz → DataW.trod enc Try.prog W base spare held n e cs = some y → ∃ x, ok x ∧ P W b off x)
    (h : DataW.trod enc Try.prog W base spare held fuel t [c] = some y) :
    ∃ (A : Option Addr) (cap : Nat) (l : List α), c = .slice A l.length cap ∧ RowOf sz P W c l ∧ (∀ x ∈ l, ok x) ∧ l.length ≤ cap ∧ cap ≤ maxLen := by
  rcases open_slice ht h with ⟨h1, _⟩ | ⟨a, len, cap, m, n, D, Pl, hcs, _, hl, hm, hmm, _, hat⟩
  · simp only [List.cons.injEq, and_true] at h1
    subst h1
    exact ⟨none, 0, [], rfl, .inl ⟨rfl, .inl rfl⟩, by simp, Nat.le_refl _, by unfold maxLen; omega⟩
  · simp only [List.cons.injEq, and_true] at hcs
    subst hcs
    have hlm : len ≤ m := by rw [hmm]; split <;> omega
    by_cases h0 : 0 < len
    · obtain ⟨b, off, spot⟩ := a
      have hspot : spot = none ∧ b < W.heap.size := by
        obtain ⟨cs', hc, ht⟩ := hat 0 (by omega)
        rw [hsz] at hc
        obtain ⟨_, hcl, hca⟩ := World.cells?_some hc
        have k0 := hca 0 hpos
        have hl0 : cs'[0]? = some (cs'[0]'(by omega)) := List.getElem?_eq_getElem (by omega)
        rw [hl0] at k0
        have hb := World.block_lt_of_cell? W _ k0
        refine ⟨by simpa [Addr.add] using World.cell?_spot k0, ?_⟩
        revert hb
        unfold Addr.add
        (repeat' split) <;> simp
      obtain ⟨rfl, hb⟩ := hspot
      have cells : ∀ i, i < len → ∃ x, ok x ∧ P W b (off + i * sz) x := fun i hi => by
        obtain ⟨cs', hc, ht⟩ := hat i (by omega)
        rw [hsz] at hc
        obtain ⟨_, hcl, hca⟩ := World.cells?_some hc
        refine hel n b (off + i * sz) cs' _ (fun j hj => ?_) hcl ht
        have k := hca j hj
        rwa [add_add, add_plain, ← Nat.add_assoc] at k
      obtain ⟨f, hf⟩ : ∃ f : Nat → α, ∀ i, i < len → ok (f i) ∧ P W b (off + i * sz) (f i) :=
        ⟨fun i => if hi : i < len then Classical.choose (cells i hi) else Classical.choose (cells 0 h0), fun i hi => by
          simp only [dif_pos hi]
          exact Classical.choose_spec (cells i hi)⟩
      refine ⟨some ⟨b, off, none⟩, cap, (List.range len).map f, by simp, .inr ⟨by simp; exact h0, b, off, cap, by simp, hb, fun i hi => ?_⟩, fun x hx => ?_, by simpa using hl, hm⟩
      · rw [List.getElem_map, List.getElem_range]
        exact (hf i (by simpa using hi)).2
      · obtain ⟨i, hi, rfl⟩ := List.mem_map.1 hx
        exact (hf i (List.mem_range.1 hi)).1
    · obtain rfl : len = 0 := by omega
      exact ⟨_, _, [], rfl, .inl ⟨rfl, .inr ⟨_, _, rfl⟩⟩, by simp, hl, hm⟩
end
end Go.Proofs.Ytjldddpchiaalaa
namespace Go.Proofs.Ytjldddpchiaalaa
open Go.RowKit Go.Shelf
/-- what lay below B0, and each block of a block or of an instruction, lies as it lay -/
structure KeepB (B0 : Nat) (W W' : World) : Prop where
  low : Below B0 W W'
  same : ∀ (k : Nat) (cs : Array Value) (t : TypeId) (f : Nat × Nat), (t = 74 ∨ t = 76) → W.heap[k]? = some (.cells cs t f) → W'.heap[k]? = some (.cells cs t f)
theorem KeepB.trans {B0 : Nat} {A B C : World} (h : KeepB B0 A B) (k : KeepB B0 B C) : KeepB B0 A C := ⟨h.low.trans k.low, fun i cs t f ht hi => k.same i cs t f ht (h.same i cs t f ht hi)⟩
theorem KeepB.below {B0 : Nat} {W W' : World} (hB : B0 ≤ W.heap.size) (h : Below W.heap.size W W') : KeepB B0 W W' := ⟨h.mono hB, fun i _ _ _ _ hi => (h.block i (Array.getElem?_eq_some_iff.1 hi).1).trans hi⟩
theorem below_grown {B0 : Nat} {W W' : World} {row : Option Nat} (h : W.grownBy W' row) (hB : B0 ≤ W.heap.size) (hr : ∀ r, row = some r → B0 ≤ r) : Below B0 W W' :=
  ⟨h.os, h.tape, h.output, h.size, fun b hb => h.block b (Nat.lt_of_lt_of_le hb hB) (fun e => by have := hr b e.symm; omega)⟩
theorem KeepB.grown {B0 : Nat} {W W' : World} {row : Option Nat} (h : W.grownBy W' row) (hB : B0 ≤ W.heap.size) (hr : ∀ r, row = some r → B0 ≤ r ∧ ∀ cs t f, (t = 74 ∨ t = 76) → W.heap[r]? ≠ some (.cells cs t f)) : KeepB B0 W W' :=
  ⟨below_grown h hB (fun r e => (hr r e).1), fun i cs t f ht hi => (h.block i (Array.getElem?_eq_some_iff.1 hi).1 (fun e => (hr i e.symm).2 cs t f ht hi)).trans hi⟩
theorem keepB_b {B0 : Nat} {w : World} (hB : B0 ≤ w.heap.size) (W : World) (l : Nat) (o o' : Obj) (hl : w.heap.size ≤ l) (h : W.heap[l]? = some o) (hc : o.isCells = false) (_ : o.isWalk = false) : KeepB B0 W (W.putObj l o') :=
  KeepB.grown (grownBy_putObj' W l o') (by have := (Array.getElem?_eq_some_iff.1 h).1; omega) (fun r e => by cases e; exact ⟨by omega, fun cs t f _ hr => by rw [h] at hr; cases hr; cases hc⟩)
theorem insts_in (n : Nat) (s : ByteArray) (b p : Int) (v : Value) (w : World) :
    CallsIn Fence.wide n Try.prog 49 #[.agg #[.string s, .int .i64 b, .int .i64 p, v]] w fun e w' => e = .returned (.func (.func 73) #[] #[.pointer (some ⟨w.heap.size, 0, none⟩)]) ∧ w' = w.alloc (.cells #[.string s, .int .i64 b, .int .i64 p, v] 60) := by
  refine callsIn_of_wp Try.func49 rfl trivial ?_ rfl
  simp only [Try.ntmps49, List.size_toArray, List.length_cons, List.length_nil, Nat.reduceAdd, Nat.reduceSub, Array.replicate_succ, Array.replicate_zero, List.push_toArray, List.append_toArray, List.nil_append, List.cons_append]
  gi_wp2
  go_ret
  exact ⟨rfl, by simp⟩
/-- what is handed out -/
def encI (x : It) : Array Value := #[.int .i64 x.n, inV x.i x.v]
set_option maxRecDepth 100000 in
set_option maxHeartbeats 4000000 in
theorem its_in (n : Nat) (hn : 1 ≤ n) (l B na ca : Nat) (C : Option Addr) (bl : List Bk) (ts : List (List It)) (Q : It → Prop) (hQ : ∀ x ∈ ts.flatten, Q x)
    (w0 : World) (hna : bl.length = na) (hn9 : na ≤ 9223372036854775807) (hi9 : ∀ b ∈ bl, b.i.length ≤ 9223372036854775807) (hD : BlkIts w0 (.slice C na ca) bl ts)
    (J Jx : List {x // Q x} → World → Prop) (W : World) (hb0 : Below w0.heap.size w0 W) (hJ : AbidesFrom W.heap.size J)
    (hY : ∀ pre x W1, J pre W1 → pre.length < ts.flatten.length → YieldAt Fence.wide (n - 1) Try.prog l (encI x.1) W1 fun e W' =>
      (e = .returned (.bool true) ∧ J (pre ++ [x]) W' ∧ KeepB w0.heap.size W1 W') ∨ (e = .returned (.bool false) ∧ Jx (pre ++ [x]) W'))
    (hB : W.cell? ⟨B, 3, none⟩ = some (.slice C na ca)) (h0 : J [] W) :
    CallsIn Fence.wide n Try.prog 73 #[.func (.yield l) #[] #[], .pointer (some ⟨B, 0, none⟩)] W fun e W' => (∃ v, e = .returned v) ∧
      ((∃ ys, ys.map Subtype.val = ts.flatten ∧ J ys W') ∨ (∃ pre, (pre.map Subtype.val) <+: ts.flatten ∧ Jx pre W')) := by
  refine callsIn_of_wp Try.func73 rfl trivial ?_ rfl
  simp only [Try.ntmps73, List.size_toArray, List.length_cons, List.length_nil, Nat.reduceAdd, Nat.reduceSub, Array.replicate_succ, Array.replicate_zero, List.push_toArray, List.append_toArray, List.nil_append, List.cons_append]
  have HY := Lib.hid hY
  have HJ := Lib.hid hJ
  have H0 := Lib.hid h0
  have HQ := Lib.hid hQ
  have HD := Lib.hid hD
  have HB0 := Lib.hid hb0
  have HNA := Lib.hid (show bl.length ≤ na ∧ na ≤ bl.length by omega)
  have HI9 := Lib.hid hi9
  have n9 : (na : Int) ≤ 9223372036854775807 := by omega
  clear hY hJ h0 hQ hD hb0 hna hi9 hn9
  gi_wp2
  clear hB
  gi_loopw [10] (fun p wr => ∃ (k : Nat) (pre : List {x // Q x}), k ≤ na ∧ p = .int .i64 k ∧ pre.map Subtype.val = (ts.take k).flatten ∧ J pre wr ∧ Below w0.heap.size w0 wr ∧ W.heap.size ≤ wr.heap.size)
    (fun p _ => na - (intOf p).toNat)
  case atStart => exact ⟨0, [], Nat.zero_le _, rfl, by simp, H0.out, HB0.out, Nat.le_refl _⟩
  case round =>
    obtain ⟨k, pre, hk, rfl, he, hj, hb, hsz⟩ := hrel
    have HE := Lib.hid he
    have HJP := Lib.hid hj
    have HB := Lib.hid hb
    have HSZ := Lib.hid hsz
    clear he hj hb hsz
    by_cases hlt : k < na
    · have hkl : k < bl.length := by have := HNA.out; omega
      have hkt : k < ts.length := by rw [HD.out.2.1]; exact hkl
      obtain ⟨b, off, cap, A, c, hv, hbl, hbk, hci, hits, hmap, hnum⟩ := HD.out.2.2 k hkl hkt
      have hv' := (Value.slice.inj hv).1
      subst hv'
      obtain ⟨c0, -, c2, c3, c4, ⟨A5, z5, c5, -⟩, c6, A7, z7, c7, -⟩ := BkAt.next _ _ _ _ _ hbl HB.out hbk
      have c1 := (cellNext hbl HB.out _).trans hci
      have hk0 : (0 : Int) ≤ (k : Int) := Int.natCast_nonneg _
      have hk1 : (k : Int) < (na : Int) := by omega
      have HLT := Lib.hid hlt
      obtain ⟨m, hm⟩ : ∃ m, bl[k].i.length = m := ⟨_, rfl⟩
      have HI := Lib.hid (show m ≤ 9223372036854775807 from hm ▸ HI9.out bl[k] (List.getElem_mem hkl))
      have HM := Lib.hid (show ts[k].length ≤ m ∧ m ≤ ts[k].length by rw [← hm, ← hmap, List.length_map]; omega)
      have HTK := Lib.hid (show (ts.take (k + 1)).flatten = (ts.take k).flatten ++ ts[k] by rw [List.take_succ_eq_append_getElem hkt, List.flatten_append]; simp)
      have HTF := Lib.hid (show (ts.take (k + 1)).flatten <+: ts.flatten from ⟨(ts.drop (k + 1)).flatten, by rw [← List.flatten_append, List.take_append_drop]⟩)
      have HMEM := Lib.hid (show ∀ x ∈ ts[k], x ∈ ts.flatten from fun x hx => List.mem_flatten.2 ⟨_, List.getElem_mem hkt, hx⟩)
      obtain ⟨t, ht⟩ : ∃ t, ts[k] = t := ⟨_, rfl⟩
      rw [hm] at hits c1
      rw [ht] at hits hnum HM HTK HMEM
      have HITS := Lib.hid hits
      have m9 : (m : Int) ≤ 9223372036854775807 := by have := HI.out; omega
      obtain ⟨P, hP⟩ : ∃ P, bl[k].p = P := ⟨_, rfl⟩
      rw [hP] at hnum c0
      have HNUM := Lib.hid hnum
      obtain ⟨K1, hK1⟩ : ∃ K1, bl[k].e.k = K1 := ⟨_, rfl⟩
      obtain ⟨K2, hK2⟩ : ∃ K1, bl[k].e.a = K1 := ⟨_, rfl⟩
      obtain ⟨K3, hK3⟩ : ∃ K1, bl[k].e.t = K1 := ⟨_, rfl⟩
      obtain ⟨K4, hK4⟩ : ∃ K1, bl[k].e.l.length = K1 := ⟨_, rfl⟩
      obtain ⟨K5, hK5⟩ : ∃ K1, bl[k].e.e = K1 := ⟨_, rfl⟩
      obtain ⟨K6, hK6⟩ : ∃ K1, bl[k].e.m.length = K1 := ⟨_, rfl⟩
      rw [hK1] at c2
      rw [hK2] at c3
      rw [hK3] at c4
      rw [hK4] at c5
      rw [hK5] at c6
      rw [hK6] at c7
      have HIT9 := Lib.hid (show k < ts.length from hkt)
      clear hits hnum hm hP hK1 hK2 hK3 hK4 hK5 hK6 hmap hci hbk hkl hkt ht
      gi_wp2
      have HBK := Lib.hid (heap_alloc_new wr (.cells #[.int .i64 P, .slice A m c, .int .i64 K1, .int .i64 K2, .int .i64 K3, .slice A5 K4 z5, .int .i64 K5, .slice A7 K6 z7] 74))
      have HJ1 := Lib.hid (fun s W1 W' (h1 : J s W1) (hg : W1.grownBy W' none) => HJ.out s W1 W' none h1 hg (fun r e => by cases e))
      have HJPx := Lib.hid (HJ1.out _ _ _ HJP.out (World.grownBy_alloc wr (.cells #[.int .i64 P, .slice A m c, .int .i64 K1, .int .i64 K2, .int .i64 K3, .slice A5 K4 z5, .int .i64 K5, .slice A7 K6 z7] 74) none))
      have HBx := Lib.hid (HB.out.trans ((balloc (Below.refl _ wr) (.cells #[.int .i64 P, .slice A m c, .int .i64 K1, .int .i64 K2, .int .i64 K3, .slice A5 K4 z5, .int .i64 K5, .slice A7 K6 z7] 74)).mono HB.out.size))
      have HSZx := Lib.hid (show W.heap.size ≤ (wr.alloc (.cells #[.int .i64 P, .slice A m c, .int .i64 K1, .int .i64 K2, .int .i64 K3, .slice A5 K4 z5, .int .i64 K5, .slice A7 K6 z7] 74)).heap.size by have := HSZ.out; simp; omega)
      generalize wr.alloc (.cells #[.int .i64 P, .slice A m c, .int .i64 K1, .int .i64 K2, .int .i64 K3, .slice A5 K4 z5, .int .i64 K5, .slice A7 K6 z7] 74) = W1 at *
      generalize wr.heap.size = BB at *
      clear c0 c1 c2 c3 c4 c5 c6 c7
      gi_loopw [17] (fun p wi => ∃ (j : Nat) (pr : List {x // Q x}), j ≤ m ∧ p = .int .i64 j ∧ pr.map Subtype.val = (ts.take k).flatten ++ t.take j ∧ J pr wi ∧ Below w0.heap.size w0 wi ∧ W.heap.size ≤ wi.heap.size ∧ wi.heap[BB]? = some (.cells #[.int .i64 P, .slice A m c, .int .i64 K1, .int .i64 K2, .int .i64 K3, .slice A5 K4 z5, .int .i64 K5, .slice A7 K6 z7] 74 (0, 0)))
        (fun p _ => m - (intOf p).toNat)
      case atStart => exact ⟨0, pre, Nat.zero_le _, rfl, by rw [HE.out]; simp, HJPx.out, HBx.out, HSZx.out, HBK.out⟩
      case round =>
        obtain ⟨j, pr, hj, rfl, he, hjj, hb, hsz, hbk⟩ := hrel
        have HE2 := Lib.hid he
        have HJ2 := Lib.hid hjj
        have HB2 := Lib.hid hb
        have HSZ2 := Lib.hid hsz
        have HBK2 := Lib.hid hbk
        clear he hjj hb hsz hbk
        by_cases hlj : j < m
        · have hjt : j < t.length := by have := HM.out; omega
          have hi := HITS.out
          obtain ⟨b2, off2, hA, hb2, hit⟩ := RowOf.at_ hi hjt
          subst hA
          obtain ⟨g0, g1, g2, g3, g4, g5, ⟨AA, cc, hvv⟩, -⟩ := ItAt.next _ _ _ _ _ hb2 HB2.out hit
          obtain ⟨x, hx⟩ : ∃ x : {x // Q x}, x = ⟨t[j], HQ.out _ (HMEM.out _ (List.getElem_mem hjt))⟩ := ⟨_, rfl⟩
          have HX := Lib.hid (show encI x.1 = #[.int .i64 (wrap64 (P + j)), .agg #[.int .i64 t[j].i.o, .int .i64 t[j].i.a, .int .i64 t[j].i.b, .int .u64 t[j].i.k, .string t[j].i.s, t[j].v]] by rw [hx]; unfold encI inV; rw [HNUM.out j hjt])
          have HE3 := Lib.hid (show (pr ++ [x]).map Subtype.val = (ts.take k).flatten ++ t.take (j + 1) by
            rw [List.map_append, HE2.out, List.take_succ_eq_append_getElem hjt, hx, List.append_assoc]
            rfl)
          have hlen : pr.length < ts.flatten.length := by
            have h1 := congrArg List.length HE3.out
            have h2 := HTF.out.length_le
            rw [HTK.out] at h2
            simp only [List.length_map, List.length_append, List.length_take, List.length_cons, List.length_nil] at h1 h2
            omega
          have HPF := Lib.hid (show (pr ++ [x]).map Subtype.val <+: ts.flatten by
            rw [HE3.out]
            refine List.IsPrefix.trans ?_ HTF.out
            rw [HTK.out]
            exact ⟨t.drop (j + 1), by rw [List.append_assoc, List.take_append_drop]⟩)
          obtain ⟨X0, h0⟩ : ∃ X, t[j].i.o = X := ⟨_, rfl⟩
          obtain ⟨X1, h1⟩ : ∃ X, t[j].i.a = X := ⟨_, rfl⟩
          obtain ⟨X2, h2⟩ : ∃ X, t[j].i.b = X := ⟨_, rfl⟩
          obtain ⟨X3, h3⟩ : ∃ X, t[j].i.k = X := ⟨_, rfl⟩
          obtain ⟨X4, h4⟩ : ∃ X, t[j].i.s = X := ⟨_, rfl⟩
          obtain ⟨nn, hnn⟩ : ∃ X, t[j].i.l.length = X := ⟨_, rfl⟩
          rw [hnn] at hvv
          rw [h0, h1, h2, h3, h4, hvv] at HX
          rw [h0] at g0
          rw [h1] at g1
          rw [h2] at g2
          rw [h3] at g3
          rw [h4] at g4
          rw [hvv] at g5
          have hy0 := HY.out pr x (wr.alloc (.cells #[.int .i64 X0, .int .i64 X1, .int .i64 X2, .int .u64 X3, .string X4, .slice AA nn cc] 76)) (HJ1.out _ _ _ HJ2.out (World.grownBy_alloc _ _ _)) hlen
          rw [HX.out] at hy0
          obtain ⟨fn, tmps, assign, body, hy, hR⟩ := hy0
          have HR := Lib.hid hR
          have i0 : (0 : Int) ≤ (j : Int) := Int.natCast_nonneg _
          have i1 : (j : Int) < (m : Int) := by omega
          have HLJ := Lib.hid hlj
          have hin := balloc (Below.refl _ wr) (.cells #[.int .i64 X0, .int .i64 X1, .int .i64 X2, .int .u64 X3, .string X4, .slice AA nn cc] 76)
          have hbk2 := (hin.block BB (Array.getElem?_eq_some_iff.1 HBK2.out).1).trans HBK2.out
          have q0 := Lib.cell_of_heap hbk2 0
          have hne : BB ≠ wr.heap.size := Nat.ne_of_lt (Array.getElem?_eq_some_iff.1 HBK2.out).1
          simp only [List.getElem?_toArray, List.getElem?_cons_zero] at q0
          clear hin hbk2 hR hlen h0 h1 h2 h3 h4 hnn hvv hx hi hit hlj hjt
          gi_wp2
          refine HR.out.mono ?_
          rintro e W3 (⟨rfl, hJ3, hk3⟩ | ⟨rfl, hJx3⟩)
          · have hin := balloc (Below.refl _ wr) (.cells #[.int .i64 X0, .int .i64 X1, .int .i64 X2, .int .u64 X3, .string X4, .slice AA nn cc] 76)
            have HBK3 := Lib.hid (hk3.same BB _ _ _ (.inl rfl) ((hin.block BB (Array.getElem?_eq_some_iff.1 HBK2.out).1).trans HBK2.out))
            have HJ3 := Lib.hid hJ3
            have HB3 := Lib.hid ((HB2.out.trans (hin.mono HB2.out.size)).trans hk3.low)
            have HSZ3 := Lib.hid (show W.heap.size ≤ W3.heap.size from by
              have h1 := HSZ2.out
              have h2 := hk3.low.size
              simp at h2
              omega)
            clear hJ3 hk3 hin
            gi_wp2
            go_roundw
            case rel => exact ⟨j + 1, pr ++ [x], HLJ.out, by go_num, HE3.out, HJ3.out, HB3.out, HSZ3.out, HBK3.out⟩
            case measure => have := HLJ.out; simp [intOf]; omega
          · gi_wp2
            refine bodyPost_ret (results_none rfl _ _ _) rfl ?_
            exact ⟨⟨_, rfl⟩, .inr ⟨pr ++ [x], HPF.out, hJx3⟩⟩
        · have hd : decide ((j : Int) < (m : Int)) = false := by simp; omega
          have HE4 := Lib.hid (show pr.map Subtype.val = (ts.take (k + 1)).flatten by
            rw [HE2.out, HTK.out, List.take_of_length_le (l := t) (i := j) (by have := HM.out; omega)])
          gi_wp2
          go_roundw
          case rel => exact ⟨k + 1, pr, HLT.out, by go_num, HE4.out, HJ2.out, HB2.out, HSZ2.out⟩
          case measure => have := HLT.out; simp [intOf]; omega
    · have hd : decide ((k : Int) < (na : Int)) = false := by simp; omega
      gi_wp2
      go_end0
      exact ⟨⟨_, rfl⟩, .inl ⟨pre, by have h := HE.out; rw [List.take_of_length_le (by have := HD.out.2.1; have := HNA.out; omega)] at h; exact h, HJP.out⟩⟩
/-- what insts hands back, for a loop over it -/
theorem its_stops (n : Nat) (hn : 1 ≤ n) (B na ca : Nat) (C : Option Addr) (bl : List Bk) (ts : List (List It)) (Q : It → Prop) (hQ : ∀ x ∈ ts.flatten, Q x)
    (w0 w : World) (hna : bl.length = na) (hn9 : na ≤ 9223372036854775807) (hi9 : ∀ b ∈ bl, b.i.length ≤ 9223372036854775807) (hD : BlkIts w0 (.slice C na ca) bl ts)
    (hb0 : Below w0.heap.size w0 w) (hB : w.cell? ⟨B, 3, none⟩ = some (.slice C na ca)) :
    SeqStopsK Fence.wide n Try.prog 73 #[.pointer (some ⟨B, 0, none⟩)] (fun x : {x // Q x} => encI x.1) (KeepB w0.heap.size)
      (fun ys => ys.map Subtype.val = ts.flatten) (fun pre => (pre.map Subtype.val) <+: ts.flatten) ts.flatten.length w := fun l J Jx W hW hJ _ hY h0 =>
  its_in n hn l B na ca C bl ts Q hQ w0 hna hn9 hi9 hD J Jx W (hb0.trans (hW.mono hb0.size)) hJ hY ((hW.cell (p := ⟨B, 3, none⟩) (World.block_lt_of_cell? w _ hB)).trans hB) h0
end Go.Proofs.Ytjldddpchiaalaa
namespace Go.Proofs.Ytjldddpchiaalaa
open Go.RowKit
def icells (i : In) (v : Value) : Array Value := #[.int .i64 i.o, .int .i64 i.a, .int .i64 i.b, .int .u64 i.k, .string i.s, v]
/-- an instruction in a block of its own -/
def InBox (W : World) (B : Nat) (i : In) (v : Value) : Prop := Whole W B 76 (icells i v)
def zeroIn : In := ⟨0, 0, 0, 0, ⟨#[]⟩, []⟩
theorem InBox.new (W : World) (i : In) (v : Value) : InBox (W.alloc (.cells (icells i v) 76)) W.heap.size i v := heap_alloc_new W _
theorem InBox.next {W W' : World} {B : Nat} {i : In} {v : Value} (h : InBox W B i v) (hb : Below W.heap.size W W') : InBox W' B i v := (hb.block B h.lt).trans h
theorem InBox.cells {W : World} {B : Nat} {i : In} {v : Value} (h : InBox W B i v) : W.cell? ⟨B, 0, none⟩ = some (.int .i64 i.o) ∧ W.cell? ⟨B, 1, none⟩ = some (.int .i64 i.a) ∧ W.cell? ⟨B, 2, none⟩ = some (.int .i64 i.b) ∧ W.cell? ⟨B, 3, none⟩ = some (.int .u64 i.k) ∧ W.cell? ⟨B, 4, none⟩ = some (.string i.s) ∧ W.cell? ⟨B, 5, none⟩ = some v :=
  ⟨Whole.cell h 0, Whole.cell h 1, Whole.cell h 2, Whole.cell h 3, Whole.cell h 4, Whole.cell h 5⟩
theorem InBox.free {W : World} {B : Nat} {i : In} {v : Value} (h : InBox W B i v) (j : Nat) : W.frozen? ⟨B, j, none⟩ = false := Whole.free h j
theorem in_info (i : In) (v : Value) : (Try.prog.info? 76).map (·.size) = some (icells i v).size := by
  show _ = some 6
  kernel_rfl
theorem InBox.other {W : World} {B : Nat} {i : In} {v : Value} (h : InBox W B i v) (p : Addr) (u : Value) (hp : B ≠ p.block) : InBox (W.setCell p u) B i v := (Below.heap_setCell W p u B hp).trans h
theorem InBox.putA {W : World} {B : Nat} {i : In} {v : Value} (h : InBox W B i v) (x : Int) : InBox (W.setCell ⟨B, 1, none⟩ (.int .i64 x)) B { i with a := x } v := Whole.put h 1 _
theorem InBox.putB {W : World} {B : Nat} {i : In} {v : Value} (h : InBox W B i v) (x : Int) : InBox (W.setCell ⟨B, 2, none⟩ (.int .i64 x)) B { i with b := x } v := Whole.put h 2 _
theorem InBox.putK {W : World} {B : Nat} {i : In} {v : Value} (h : InBox W B i v) (x : Int) : InBox (W.setCell ⟨B, 3, none⟩ (.int .u64 x)) B { i with k := x } v := Whole.put h 3 _
theorem InBox.putL {W : World} {B : Nat} {i : In} {v : Value} (h : InBox W B i v) (u : Value) (l : List Int) : InBox (W.setCell ⟨B, 5, none⟩ u) B { i with l := l } u := Whole.put h 5 _
theorem below_cell {w W : World} {p : Addr} (hb : Below w.heap.size w W) (v : Value) (h : w.heap.size ≤ p.block) : Below w.heap.size w (W.setCell p v) := hb.setCell h v
theorem below_rowI {w W : World} {B : Nat} (hb : Below w.heap.size w W) (cs : Array Value) (h : w.heap.size ≤ B) : Below w.heap.size w (W.setRow B cs) := by
  refine ⟨hb.os, hb.tape, hb.output, ?_, fun b hbb => ?_⟩
  · simpa [World.setRow] using hb.size
  · rw [← hb.block b hbb]
    simp [World.setRow, Array.getElem?_modify, show ¬ B = b by omega]
theorem icells_one {i : In} {v : Value} (h : v.oneCell' = true) : (icells i v).all (·.oneCell') = true := by
  simpa [icells, Value.oneCell'] using h
theorem store_in {ops : Array Oper} {rest : List Oper} {o : Oper} {a : Act} {w : World} {Q : Exit → Act → World → Prop} (hgd : o.guard = none) (x y : Operand) (ho : o.op = .store 76 x y)
    (B : Nat) (k' : In) (v' : Value) (hx : a.eval x = .pointer (some ⟨B, 0, none⟩)) (hy : a.eval y = .agg (icells k' v')) (hv : v'.oneCell' = true) (k : In) (v : Value) (hM : InBox w B k v) (h : wpList Try.prog ops Q rest (a.put o.dst undef) (w.setRow B (icells k' v'))) : wpList Try.prog ops Q (o :: rest) a w :=
  wpList_plain hgd fun K hK => wp_store_row _ x y ho B (icells k' v') hx hy _ _ hM (in_info k' v') (by rfl) (icells_one hv) (hK _ _ h)
theorem InBox.row {W : World} {B : Nat} {k : In} {v : Value} (h : InBox W B k v) (k' : In) (v' : Value) : InBox (W.setRow B (icells k' v')) B k' v' := by
  unfold InBox Whole at h ⊢
  simp [World.setRow, Array.getElem?_modify, h]
theorem results_in {fn : Func} {p : Tmp} (h : fn.results = #[.cell p 76]) (tmps : Array Value) (w : World) (B : Nat) (k : In) (v : Value) (hp : tmps.getD p undef = .pointer (some ⟨B, 0, none⟩)) (hM : InBox w B k v) :
    (results fn tmps).run Try.prog w = .ok (.agg (icells k v)) w :=
  results_cell_row h tmps w B _ _ _ _ hp hM Try.underlying76 rfl (in_info k v)
/-- the three blocks of a call -/
theorem three_new (w : World) (x y z : In) (u v t : Value) (W : World) (hW : W = (((w.alloc (.cells (icells x u) 76)).alloc (.cells (icells y v) 76)).alloc (.cells (icells z t) 76))) :
    W.heap.size = w.heap.size + 3 ∧ Below w.heap.size w W ∧ InBox W w.heap.size x u ∧ InBox W (w.heap.size + 1) y v ∧ InBox W (w.heap.size + 1 + 1) z t := by
  subst hW
  have e1 := InBox.new w x u
  have e2 := InBox.new (w.alloc (.cells (icells x u) 76)) y v
  have e3 := InBox.new ((w.alloc (.cells (icells x u) 76)).alloc (.cells (icells y v) 76)) z t
  rw [World.size_alloc] at e2
  rw [World.size_alloc, World.size_alloc] at e3
  exact ⟨by simp, balloc (balloc (balloc (Below.refl _ w) _) _) _, (e1.next (balloc (Below.refl _ _) _)).next (balloc (Below.refl _ _) _), e2.next (balloc (Below.refl _ _) _), e3⟩
theorem OwnsI.put {W : World} {base b i : Nat} {v u : Value} {l : List Int} (h : OwnsI W base v l) (hb : b < base) : OwnsI (W.setCell ⟨b, i, none⟩ u) base v l := by
  refine World.ownsRow.kept (row := some b) (show W.ownsRow base 3 1 v l.length (intRow l) from h) ⟨rfl, rfl, rfl, by simp [World.setCell], fun k _ hk => Below.heap_setCell _ _ _ _ (fun e => hk (by simp [e]))⟩ ?_
  rcases h.2 with ⟨rfl, _⟩ | ⟨g, cap, cur, rfl, hg, _⟩
  · exact .inl rfl
  · refine .inr (fun e => ?_)
    have : g = b := Option.some.inj e
    omega
theorem OwnsI.row {W : World} {base b : Nat} {v : Value} {l : List Int} {cs : Array Value} (h : OwnsI W base v l) (hb : b < base) : OwnsI (W.setRow b cs) base v l := by
  refine World.ownsRow.kept (row := some b) (show W.ownsRow base 3 1 v l.length (intRow l) from h) ⟨rfl, rfl, rfl, by simp [World.setRow], fun k _ hk => by simp [World.setRow, Array.getElem?_modify, show ¬ b = k from fun e => hk (by rw [e])]⟩ ?_
  rcases h.2 with ⟨rfl, _⟩ | ⟨g, cap, cur, rfl, hg, _⟩
  · exact .inl rfl
  · refine .inr (fun e => ?_)
    have : g = b := Option.some.inj e
    omega
theorem OwnsI.above {W : World} {base n c ub uo : Nat} {l : List Int} (h : OwnsI W base (.slice (some ⟨ub, uo, none⟩) n c) l) (hl : 0 < l.length) : base ≤ ub := by
  have h' : W.ownsRow base 3 1 _ l.length (intRow l) := h
  obtain ⟨g, cap, e, hg, _⟩ := h'.form hl
  cases e
  exact hg
/-- what asked answers -/
def AskPost (i : In) (w : World) (e : Ending) (w' : World) : Prop := ∃ v, e = .returned (.agg (icells (askedI i) v)) ∧ Ints w' v (askedI i).l ∧ Below w.heap.size w w'
theorem noInts (W : World) : Ints W (.slice none 0 0) [] := .inl ⟨rfl, .inl rfl⟩
set_option maxRecDepth 100000 in
set_option maxHeartbeats 8000000 in
theorem asked_1 (a b k : Int) (s : ByteArray) (l : List Int) (A : Option Addr) (cap : Nat) (w : World) (hS : Ints w (.slice A l.length cap) l) (hn : l.length * 8 ≤ 140737488355328) :
    Calls Try.prog 92 #[inV ⟨1, a, b, k, s, l⟩ (.slice A l.length cap)] w (AskPost ⟨1, a, b, k, s, l⟩ w) := by
  have HU := Lib.hid (fun (W : World) (hb : Below w.heap.size w W) => uses_any ⟨1, a, b, k, s, l⟩ _ W (hS.next hb) hn)
  have HA := Lib.hid (show askedI ⟨1, a, b, k, s, l⟩ = ⟨1, 0, 0, k, ⟨#[]⟩, []⟩ from rfl)
  rw [show usesI ⟨1, a, b, k, s, l⟩ = [] from rfl] at HU
  have HH := Lib.hid (fun W : World => hasName_any 1 W)
  rw [show ((1 : Int) == 12 || (1 : Int) == 13 || (1 : Int) == 14) = false from rfl] at HH
  clear hS hn
  unfold inV at HU ⊢
  simp only at HU ⊢
  obtain ⟨W, hW⟩ : ∃ W, W = (((w.alloc (.cells (icells ⟨1, a, b, k, s, l⟩ (.slice A l.length cap)) 76)).alloc (.cells (icells zeroIn (.slice none 0 0)) 76)).alloc (.cells (icells ⟨1, 0, 0, 0, ⟨#[]⟩, []⟩ (.slice none 0 0)) 76)) := ⟨_, rfl⟩
  have H3 := Lib.hid (three_new w _ _ _ _ _ _ W hW)
  simp only [icells, zeroIn] at hW
  go_enter Try.func92, Try.ntmps92
  go_wp2_with fail
  rw [← hW]
  refine (HU.out _ H3.out.2.1).mono ?_
  clear hW
  rintro r w2 ⟨v2, rfl, ho, hb⟩
  have HI2 := Lib.hid ho.ints
  have HO := Lib.hid (show OwnsI w2 (w.heap.size + 3) v2 _ by rw [← H3.out.1]; exact ho)
  have B0 := Lib.hid (H3.out.2.2.1.next hb)
  have B1 := Lib.hid (H3.out.2.2.2.1.next hb)
  have B2 := Lib.hid (H3.out.2.2.2.2.next hb)
  have HB := Lib.hid (bthen H3.out.2.1 hb)
  obtain ⟨i0, i1, i2, i3, i4, i5⟩ := B0.out.cells
  obtain ⟨k0, k1, k2, k3, k4, k5⟩ := B2.out.cells
  have kf := B2.out.free
  simp only at i0 i1 i2 i3 i4 i5 k0 k1 k2 k3 k4 k5
  obtain ⟨A2, c2, hv2⟩ := HI2.out.slice
  subst hv2
  have nfix : ∀ n : Nat, n = n := fun _ => rfl
  clear ho hb H3
  go_wp2_with fail
  refine (HH.out _).mono ?_
  rintro r w4 ⟨rfl, rfl⟩
  have Z2 := Lib.hid (B2.out.putK k)
  have Z1 := Lib.hid (B1.out.other ⟨w.heap.size + 1 + 1, 3, none⟩ (.int .u64 k) (by simp))
  have Z0 := Lib.hid (B0.out.other ⟨w.heap.size + 1 + 1, 3, none⟩ (.int .u64 k) (by simp; omega))
  have ZB := Lib.hid (below_cell (p := ⟨w.heap.size + 1 + 1, 3, none⟩) HB.out (.int .u64 k) (by simp; omega))
  simp only at Z2
  clear k0 k1 k2 k3 k4 k5 i0 i1 i2 i3 i4 i5 kf
  generalize w2.setCell ⟨w.heap.size + 1 + 1, 3, none⟩ (.int .u64 k) = W4 at *
  obtain ⟨-, -, -, -, i4, -⟩ := Z0.out.cells
  obtain ⟨z0, z1, z2, z3, z4, z5⟩ := Z2.out.cells
  have zf := Z2.out.free
  simp only at i4 z0 z1 z2 z3 z4 z5
  go_wp2_with (refine store_in rfl _ _ rfl _ ⟨1, 0, 0, k, ⟨#[]⟩, []⟩ (.slice none 0 0) rfl rfl rfl _ _ Z1.out ?_)
  refine bodyPost_ret (results_in Try.results92 _ _ _ ⟨1, 0, 0, k, ⟨#[]⟩, []⟩ (.slice none 0 0) rfl (Z1.out.row ⟨1, 0, 0, k, ⟨#[]⟩, []⟩ (.slice none 0 0))) rfl ?_
  exact ⟨(.slice none 0 0), by rw [HA.out]; try rfl, by rw [HA.out]; exact noInts _, below_rowI ZB.out _ (by omega)⟩
set_option maxRecDepth 100000 in
set_option maxHeartbeats 8000000 in
theorem asked_12 (a b k : Int) (s : ByteArray) (l : List Int) (A : Option Addr) (cap : Nat) (w : World) (hS : Ints w (.slice A l.length cap) l) (hn : l.length * 8 ≤ 140737488355328) :
    Calls Try.prog 92 #[inV ⟨12, a, b, k, s, l⟩ (.slice A l.length cap)] w (AskPost ⟨12, a, b, k, s, l⟩ w) := by
  have HU := Lib.hid (fun (W : World) (hb : Below w.heap.size w W) => uses_any ⟨12, a, b, k, s, l⟩ _ W (hS.next hb) hn)
  have HA := Lib.hid (show askedI ⟨12, a, b, k, s, l⟩ = ⟨12, 0, 0, 0, s, []⟩ from rfl)
  rw [show usesI ⟨12, a, b, k, s, l⟩ = [] from rfl] at HU
  have HH := Lib.hid (fun W : World => hasName_any 12 W)
  rw [show ((12 : Int) == 12 || (12 : Int) == 13 || (12 : Int) == 14) = true from rfl] at HH
  clear hS hn
  unfold inV at HU ⊢
  simp only at HU ⊢
  obtain ⟨W, hW⟩ : ∃ W, W = (((w.alloc (.cells (icells ⟨12, a, b, k, s, l⟩ (.slice A l.length cap)) 76)).alloc (.cells (icells zeroIn (.slice none 0 0)) 76)).alloc (.cells (icells ⟨12, 0, 0, 0, ⟨#[]⟩, []⟩ (.slice none 0 0)) 76)) := ⟨_, rfl⟩
  have H3 := Lib.hid (three_new w _ _ _ _ _ _ W hW)
  simp only [icells, zeroIn] at hW
  go_enter Try.func92, Try.ntmps92
  go_wp2_with fail
  rw [← hW]
  refine (HU.out _ H3.out.2.1).mono ?_
  clear hW
  rintro r w2 ⟨v2, rfl, ho, hb⟩
  have HI2 := Lib.hid ho.ints
  have HO := Lib.hid (show OwnsI w2 (w.heap.size + 3) v2 _ by rw [← H3.out.1]; exact ho)
  have B0 := Lib.hid (H3.out.2.2.1.next hb)
  have B1 := Lib.hid (H3.out.2.2.2.1.next hb)
  have B2 := Lib.hid (H3.out.2.2.2.2.next hb)
  have HB := Lib.hid (bthen H3.out.2.1 hb)
  obtain ⟨i0, i1, i2, i3, i4, i5⟩ := B0.out.cells
  obtain ⟨k0, k1, k2, k3, k4, k5⟩ := B2.out.cells
  have kf := B2.out.free
  simp only at i0 i1 i2 i3 i4 i5 k0 k1 k2 k3 k4 k5
  obtain ⟨A2, c2, hv2⟩ := HI2.out.slice
  subst hv2
  have nfix : ∀ n : Nat, n = n := fun _ => rfl
  clear ho hb H3
  go_wp2_with fail
  refine (HH.out _).mono ?_
  rintro r w4 ⟨rfl, rfl⟩
  have Z2 := B2
  have Z1 := B1
  have Z0 := B0
  have ZB := HB
  clear k0 k1 k2 k3 k4 k5 i0 i1 i2 i3 i4 i5 kf
  generalize w2 = W4 at *
  obtain ⟨-, -, -, -, i4, -⟩ := Z0.out.cells
  obtain ⟨z0, z1, z2, z3, z4, z5⟩ := Z2.out.cells
  have zf := Z2.out.free
  simp only at i4 z0 z1 z2 z3 z4 z5
  have Y1 := Lib.hid (Z1.out.other ⟨w.heap.size + 1 + 1, 4, none⟩ (.string s) (by simp))
  have YB := Lib.hid (below_cell (p := ⟨w.heap.size + 1 + 1, 4, none⟩) ZB.out (.string s) (by simp; omega))
  go_wp2_with (refine store_in rfl _ _ rfl _ ⟨12, 0, 0, 0, s, []⟩ (.slice none 0 0) rfl rfl rfl _ _ Y1.out ?_)
  refine bodyPost_ret (results_in Try.results92 _ _ _ ⟨12, 0, 0, 0, s, []⟩ (.slice none 0 0) rfl (Y1.out.row ⟨12, 0, 0, 0, s, []⟩ (.slice none 0 0))) rfl ?_
  exact ⟨(.slice none 0 0), by rw [HA.out]; try rfl, by rw [HA.out]; exact noInts _, below_rowI YB.out _ (by omega)⟩
set_option maxRecDepth 100000 in
set_option maxHeartbeats 8000000 in
theorem asked_13 (a b k : Int) (s : ByteArray) (l : List Int) (A : Option Addr) (cap : Nat) (w : World) (hS : Ints w (.slice A l.length cap) l) (hn : l.length * 8 ≤ 140737488355328) :
    Calls Try.prog 92 #[inV ⟨13, a, b, k, s, l⟩ (.slice A l.length cap)] w (AskPost ⟨13, a, b, k, s, l⟩ w) := by
  have HU := Lib.hid (fun (W : World) (hb : Below w.heap.size w W) => uses_any ⟨13, a, b, k, s, l⟩ _ W (hS.next hb) hn)
  have HA := Lib.hid (show askedI ⟨13, a, b, k, s, l⟩ = ⟨13, a, 0, 0, s, []⟩ from rfl)
  rw [show usesI ⟨13, a, b, k, s, l⟩ = [a] from rfl] at HU
  have HH := Lib.hid (fun W : World => hasName_any 13 W)
  rw [show ((13 : Int) == 12 || (13 : Int) == 13 || (13 : Int) == 14) = true from rfl] at HH
  clear hS hn
  unfold inV at HU ⊢
  simp only at HU ⊢
  obtain ⟨W, hW⟩ : ∃ W, W = (((w.alloc (.cells (icells ⟨13, a, b, k, s, l⟩ (.slice A l.length cap)) 76)).alloc (.cells (icells zeroIn (.slice none 0 0)) 76)).alloc (.cells (icells ⟨13, 0, 0, 0, ⟨#[]⟩, []⟩ (.slice none 0 0)) 76)) := ⟨_, rfl⟩
  have H3 := Lib.hid (three_new w _ _ _ _ _ _ W hW)
  simp only [icells, zeroIn] at hW
  go_enter Try.func92, Try.ntmps92
  go_wp2_with fail
  rw [← hW]
  refine (HU.out _ H3.out.2.1).mono ?_
  clear hW
  rintro r w2 ⟨v2, rfl, ho, hb⟩
  have HI2 := Lib.hid ho.ints
  have HO := Lib.hid (show OwnsI w2 (w.heap.size + 3) v2 _ by rw [← H3.out.1]; exact ho)
  have B0 := Lib.hid (H3.out.2.2.1.next hb)
  have B1 := Lib.hid (H3.out.2.2.2.1.next hb)
  have B2 := Lib.hid (H3.out.2.2.2.2.next hb)
  have HB := Lib.hid (bthen H3.out.2.1 hb)
  obtain ⟨i0, i1, i2, i3, i4, i5⟩ := B0.out.cells
  obtain ⟨k0, k1, k2, k3, k4, k5⟩ := B2.out.cells
  have kf := B2.out.free
  simp only at i0 i1 i2 i3 i4 i5 k0 k1 k2 k3 k4 k5
  obtain ⟨A2, c2, hv2⟩ := HI2.out.slice
  subst hv2
  have nfix : ∀ n : Nat, n = n := fun _ => rfl
  clear ho hb H3
  obtain ⟨ub, uo, hA2, u0⟩ := HI2.out.at_ (i := 0) (by simp)
  subst hA2
  simp only [Nat.add_zero, List.getElem_cons_zero] at u0
  go_wp2_with fail
  refine (HH.out _).mono ?_
  rintro r w4 ⟨rfl, rfl⟩
  have Z2 := Lib.hid (B2.out.putA a)
  have Z1 := Lib.hid (B1.out.other ⟨w.heap.size + 1 + 1, 1, none⟩ (.int .i64 a) (by simp))
  have Z0 := Lib.hid (B0.out.other ⟨w.heap.size + 1 + 1, 1, none⟩ (.int .i64 a) (by simp; omega))
  have ZB := Lib.hid (below_cell (p := ⟨w.heap.size + 1 + 1, 1, none⟩) HB.out (.int .i64 a) (by simp; omega))
  simp only at Z2
  clear u0 k0 k1 k2 k3 k4 k5 i0 i1 i2 i3 i4 i5 kf
  generalize w2.setCell ⟨w.heap.size + 1 + 1, 1, none⟩ (.int .i64 a) = W4 at *
  obtain ⟨-, -, -, -, i4, -⟩ := Z0.out.cells
  obtain ⟨z0, z1, z2, z3, z4, z5⟩ := Z2.out.cells
  have zf := Z2.out.free
  simp only at i4 z0 z1 z2 z3 z4 z5
  have Y1 := Lib.hid (Z1.out.other ⟨w.heap.size + 1 + 1, 4, none⟩ (.string s) (by simp))
  have YB := Lib.hid (below_cell (p := ⟨w.heap.size + 1 + 1, 4, none⟩) ZB.out (.string s) (by simp; omega))
  go_wp2_with (refine store_in rfl _ _ rfl _ ⟨13, a, 0, 0, s, []⟩ (.slice none 0 0) rfl rfl rfl _ _ Y1.out ?_)
  refine bodyPost_ret (results_in Try.results92 _ _ _ ⟨13, a, 0, 0, s, []⟩ (.slice none 0 0) rfl (Y1.out.row ⟨13, a, 0, 0, s, []⟩ (.slice none 0 0))) rfl ?_
  exact ⟨(.slice none 0 0), by rw [HA.out]; try rfl, by rw [HA.out]; exact noInts _, below_rowI YB.out _ (by omega)⟩
set_option maxRecDepth 100000 in
set_option maxHeartbeats 8000000 in
theorem asked_16 (a b k : Int) (s : ByteArray) (l : List Int) (A : Option Addr) (cap : Nat) (w : World) (hS : Ints w (.slice A l.length cap) l) (hn : l.length * 8 ≤ 140737488355328) :
    Calls Try.prog 92 #[inV ⟨16, a, b, k, s, l⟩ (.slice A l.length cap)] w (AskPost ⟨16, a, b, k, s, l⟩ w) := by
  have HU := Lib.hid (fun (W : World) (hb : Below w.heap.size w W) => uses_any ⟨16, a, b, k, s, l⟩ _ W (hS.next hb) hn)
  have HA := Lib.hid (show askedI ⟨16, a, b, k, s, l⟩ = ⟨16, a, 0, 0, ⟨#[]⟩, []⟩ from rfl)
  rw [show usesI ⟨16, a, b, k, s, l⟩ = [a] from rfl] at HU
  have HH := Lib.hid (fun W : World => hasName_any 16 W)
  rw [show ((16 : Int) == 12 || (16 : Int) == 13 || (16 : Int) == 14) = false from rfl] at HH
  clear hS hn
  unfold inV at HU ⊢
  simp only at HU ⊢
  obtain ⟨W, hW⟩ : ∃ W, W = (((w.alloc (.cells (icells ⟨16, a, b, k, s, l⟩ (.slice A l.length cap)) 76)).alloc (.cells (icells zeroIn (.slice none 0 0)) 76)).alloc (.cells (icells ⟨16, 0, 0, 0, ⟨#[]⟩, []⟩ (.slice none 0 0)) 76)) := ⟨_, rfl⟩
  have H3 := Lib.hid (three_new w _ _ _ _ _ _ W hW)
  simp only [icells, zeroIn] at hW
  go_enter Try.func92, Try.ntmps92
  go_wp2_with fail
  rw [← hW]
  refine (HU.out _ H3.out.2.1).mono ?_
  clear hW
  rintro r w2 ⟨v2, rfl, ho, hb⟩
  have HI2 := Lib.hid ho.ints
  have HO := Lib.hid (show OwnsI w2 (w.heap.size + 3) v2 _ by rw [← H3.out.1]; exact ho)
  have B0 := Lib.hid (H3.out.2.2.1.next hb)
  have B1 := Lib.hid (H3.out.2.2.2.1.next hb)
  have B2 := Lib.hid (H3.out.2.2.2.2.next hb)
  have HB := Lib.hid (bthen H3.out.2.1 hb)
  obtain ⟨i0, i1, i2, i3, i4, i5⟩ := B0.out.cells
  obtain ⟨k0, k1, k2, k3, k4, k5⟩ := B2.out.cells
  have kf := B2.out.free
  simp only at i0 i1 i2 i3 i4 i5 k0 k1 k2 k3 k4 k5
  obtain ⟨A2, c2, hv2⟩ := HI2.out.slice
  subst hv2
  have nfix : ∀ n : Nat, n = n := fun _ => rfl
  clear ho hb H3
  obtain ⟨ub, uo, hA2, u0⟩ := HI2.out.at_ (i := 0) (by simp)
  subst hA2
  simp only [Nat.add_zero, List.getElem_cons_zero] at u0
  go_wp2_with fail
  refine (HH.out _).mono ?_
  rintro r w4 ⟨rfl, rfl⟩
  have Z2 := Lib.hid (B2.out.putA a)
  have Z1 := Lib.hid (B1.out.other ⟨w.heap.size + 1 + 1, 1, none⟩ (.int .i64 a) (by simp))
  have Z0 := Lib.hid (B0.out.other ⟨w.heap.size + 1 + 1, 1, none⟩ (.int .i64 a) (by simp; omega))
  have ZB := Lib.hid (below_cell (p := ⟨w.heap.size + 1 + 1, 1, none⟩) HB.out (.int .i64 a) (by simp; omega))
  simp only at Z2
  clear u0 k0 k1 k2 k3 k4 k5 i0 i1 i2 i3 i4 i5 kf
  generalize w2.setCell ⟨w.heap.size + 1 + 1, 1, none⟩ (.int .i64 a) = W4 at *
  obtain ⟨-, -, -, -, i4, -⟩ := Z0.out.cells
  obtain ⟨z0, z1, z2, z3, z4, z5⟩ := Z2.out.cells
  have zf := Z2.out.free
  simp only at i4 z0 z1 z2 z3 z4 z5
  go_wp2_with (refine store_in rfl _ _ rfl _ ⟨16, a, 0, 0, ⟨#[]⟩, []⟩ (.slice none 0 0) rfl rfl rfl _ _ Z1.out ?_)
  refine bodyPost_ret (results_in Try.results92 _ _ _ ⟨16, a, 0, 0, ⟨#[]⟩, []⟩ (.slice none 0 0) rfl (Z1.out.row ⟨16, a, 0, 0, ⟨#[]⟩, []⟩ (.slice none 0 0))) rfl ?_
  exact ⟨(.slice none 0 0), by rw [HA.out]; try rfl, by rw [HA.out]; exact noInts _, below_rowI ZB.out _ (by omega)⟩
set_option maxRecDepth 100000 in
set_option maxHeartbeats 8000000 in
theorem asked_nil (o a b k : Int) (s : ByteArray) (l : List Int) (A : Option Addr) (cap : Nat) (w : World) (h : o ≠ 1 ∧ ¬ (2 ≤ o ∧ o ≤ 11) ∧ o ≠ 12 ∧ o ≠ 13 ∧ o ≠ 14 ∧ o ≠ 16) (hS : Ints w (.slice A l.length cap) l) (hn : l.length * 8 ≤ 140737488355328) :
    Calls Try.prog 92 #[inV ⟨o, a, b, k, s, l⟩ (.slice A l.length cap)] w (AskPost ⟨o, a, b, k, s, l⟩ w) := by
  have HU := Lib.hid (fun (W : World) (hb : Below w.heap.size w W) => uses_any ⟨o, a, b, k, s, l⟩ _ W (hS.next hb) hn)
  have HA := Lib.hid (show askedI ⟨o, a, b, k, s, l⟩ = ⟨o, 0, 0, 0, ⟨#[]⟩, []⟩ from (by
    have e1 : (decide (2 ≤ o) && decide (o ≤ 11)) = false := by simp; omega
    have e12 : (o == 12) = false := by simp; omega
    have e13 : (o == 13) = false := by simp; omega
    have e14 : (o == 14) = false := by simp; omega
    have e16 : (o == 16) = false := by simp; omega
    have f1 : ¬ o = 1 := by omega
    have f14 : ¬ o = 14 := by omega
    simp only [askedI, aB, bB, hasB, e1, e12, e13, e14, e16, Bool.or_self, Bool.false_eq_true, if_false, if_neg f1, if_neg f14]
    rfl))
  rw [show usesI ⟨o, a, b, k, s, l⟩ = [] from usesL_nil h.2.1 h.2.2.2.1 h.2.2.2.2.2 h.2.2.2.2.1] at HU
  have HH := Lib.hid (fun W : World => hasName_any o W)
  rw [show ((o : Int) == 12 || (o : Int) == 13 || (o : Int) == 14) = false from by simp; omega] at HH
  have t14 : (o == 14) = false := by simp; omega
  have t1 : (o == 1) = false := by simp; omega
  clear hS hn h
  unfold inV at HU ⊢
  simp only at HU ⊢
  obtain ⟨W, hW⟩ : ∃ W, W = (((w.alloc (.cells (icells ⟨o, a, b, k, s, l⟩ (.slice A l.length cap)) 76)).alloc (.cells (icells zeroIn (.slice none 0 0)) 76)).alloc (.cells (icells ⟨o, 0, 0, 0, ⟨#[]⟩, []⟩ (.slice none 0 0)) 76)) := ⟨_, rfl⟩
  have H3 := Lib.hid (three_new w _ _ _ _ _ _ W hW)
  simp only [icells, zeroIn] at hW
  go_enter Try.func92, Try.ntmps92
  go_wp2_with fail
  rw [← hW]
  refine (HU.out _ H3.out.2.1).mono ?_
  clear hW
  rintro r w2 ⟨v2, rfl, ho, hb⟩
  have HI2 := Lib.hid ho.ints
  have HO := Lib.hid (show OwnsI w2 (w.heap.size + 3) v2 _ by rw [← H3.out.1]; exact ho)
  have B0 := Lib.hid (H3.out.2.2.1.next hb)
  have B1 := Lib.hid (H3.out.2.2.2.1.next hb)
  have B2 := Lib.hid (H3.out.2.2.2.2.next hb)
  have HB := Lib.hid (bthen H3.out.2.1 hb)
  obtain ⟨i0, i1, i2, i3, i4, i5⟩ := B0.out.cells
  obtain ⟨k0, k1, k2, k3, k4, k5⟩ := B2.out.cells
  have kf := B2.out.free
  simp only at i0 i1 i2 i3 i4 i5 k0 k1 k2 k3 k4 k5
  obtain ⟨A2, c2, hv2⟩ := HI2.out.slice
  subst hv2
  have nfix : ∀ n : Nat, n = n := fun _ => rfl
  clear ho hb H3
  go_wp2_with fail
  refine (HH.out _).mono ?_
  rintro r w4 ⟨rfl, rfl⟩
  have Z2 := B2
  have Z1 := B1
  have Z0 := B0
  have ZB := HB
  clear k0 k1 k2 k3 k4 k5 i0 i1 i2 i3 i4 i5 kf
  generalize w2 = W4 at *
  obtain ⟨-, -, -, -, i4, -⟩ := Z0.out.cells
  obtain ⟨z0, z1, z2, z3, z4, z5⟩ := Z2.out.cells
  have zf := Z2.out.free
  simp only at i4 z0 z1 z2 z3 z4 z5
  go_wp2_with (refine store_in rfl _ _ rfl _ ⟨o, 0, 0, 0, ⟨#[]⟩, []⟩ (.slice none 0 0) rfl rfl rfl _ _ Z1.out ?_)
  refine bodyPost_ret (results_in Try.results92 _ _ _ ⟨o, 0, 0, 0, ⟨#[]⟩, []⟩ (.slice none 0 0) rfl (Z1.out.row ⟨o, 0, 0, 0, ⟨#[]⟩, []⟩ (.slice none 0 0))) rfl ?_
  exact ⟨(.slice none 0 0), by rw [HA.out]; try rfl, by rw [HA.out]; exact noInts _, below_rowI ZB.out _ (by omega)⟩
set_option maxRecDepth 100000 in
set_option maxHeartbeats 8000000 in
theorem asked_two (o a b k : Int) (s : ByteArray) (l : List Int) (A : Option Addr) (cap : Nat) (w : World) (h : 2 ≤ o ∧ o ≤ 11) (hS : Ints w (.slice A l.length cap) l) (hn : l.length * 8 ≤ 140737488355328) :
    Calls Try.prog 92 #[inV ⟨o, a, b, k, s, l⟩ (.slice A l.length cap)] w (AskPost ⟨o, a, b, k, s, l⟩ w) := by
  have HU := Lib.hid (fun (W : World) (hb : Below w.heap.size w W) => uses_any ⟨o, a, b, k, s, l⟩ _ W (hS.next hb) hn)
  have HA := Lib.hid (show askedI ⟨o, a, b, k, s, l⟩ = ⟨o, a, b, 0, ⟨#[]⟩, []⟩ from (by
    have e1 : (decide (2 ≤ o) && decide (o ≤ 11)) = true := by simp; omega
    have e12 : (o == 12) = false := by simp; omega
    have e13 : (o == 13) = false := by simp; omega
    have e14 : (o == 14) = false := by simp; omega
    have e16 : (o == 16) = false := by simp; omega
    have f1 : ¬ o = 1 := by omega
    have f14 : ¬ o = 14 := by omega
    simp only [askedI, aB, bB, hasB, e1, e12, e13, e14, e16, Bool.or_self, Bool.true_or, Bool.false_eq_true, if_false, if_true, if_neg f1, if_neg f14]
    rfl))
  rw [show usesI ⟨o, a, b, k, s, l⟩ = [a, b] from by unfold usesI usesL; rw [if_pos h]] at HU
  have HH := Lib.hid (fun W : World => hasName_any o W)
  rw [show ((o : Int) == 12 || (o : Int) == 13 || (o : Int) == 14) = false from by simp; omega] at HH
  have t14 : (o == 14) = false := by simp; omega
  have t1 : (o == 1) = false := by simp; omega
  clear hS hn h
  unfold inV at HU ⊢
  simp only at HU ⊢
  obtain ⟨W, hW⟩ : ∃ W, W = (((w.alloc (.cells (icells ⟨o, a, b, k, s, l⟩ (.slice A l.length cap)) 76)).alloc (.cells (icells zeroIn (.slice none 0 0)) 76)).alloc (.cells (icells ⟨o, 0, 0, 0, ⟨#[]⟩, []⟩ (.slice none 0 0)) 76)) := ⟨_, rfl⟩
  have H3 := Lib.hid (three_new w _ _ _ _ _ _ W hW)
  simp only [icells, zeroIn] at hW
  go_enter Try.func92, Try.ntmps92
  go_wp2_with fail
  rw [← hW]
  refine (HU.out _ H3.out.2.1).mono ?_
  clear hW
  rintro r w2 ⟨v2, rfl, ho, hb⟩
  have HI2 := Lib.hid ho.ints
  have HO := Lib.hid (show OwnsI w2 (w.heap.size + 3) v2 _ by rw [← H3.out.1]; exact ho)
  have B0 := Lib.hid (H3.out.2.2.1.next hb)
  have B1 := Lib.hid (H3.out.2.2.2.1.next hb)
  have B2 := Lib.hid (H3.out.2.2.2.2.next hb)
  have HB := Lib.hid (bthen H3.out.2.1 hb)
  obtain ⟨i0, i1, i2, i3, i4, i5⟩ := B0.out.cells
  obtain ⟨k0, k1, k2, k3, k4, k5⟩ := B2.out.cells
  have kf := B2.out.free
  simp only at i0 i1 i2 i3 i4 i5 k0 k1 k2 k3 k4 k5
  obtain ⟨A2, c2, hv2⟩ := HI2.out.slice
  subst hv2
  have nfix : ∀ n : Nat, n = n := fun _ => rfl
  clear ho hb H3
  obtain ⟨ub, uo, hA2, u0⟩ := HI2.out.at_ (i := 0) (by simp)
  subst hA2
  obtain ⟨ub', uo', hA2, u1⟩ := HI2.out.at_ (i := 1) (by simp)
  cases hA2
  simp only [Nat.add_zero, List.getElem_cons_zero, List.getElem_cons_succ] at u0 u1
  have hub := HO.out.above (by simp)
  have hub1 : ¬ w.heap.size + 1 + 1 = ub := by omega
  have hub2 : ¬ ub = w.heap.size + 1 + 1 := by omega
  go_upto_region 6 with fail
  go_region
  all_goals
    go_wp2_with fail
    refine (HH.out _).mono ?_
    rintro r w4 ⟨rfl, hw⟩
    have ZZ := Lib.hid (show InBox w4 (w.heap.size + 1 + 1) ⟨o, a, b, 0, ⟨#[]⟩, []⟩ (.slice none 0 0) ∧ InBox w4 (w.heap.size + 1) zeroIn (.slice none 0 0) ∧ InBox w4 w.heap.size ⟨o, a, b, k, s, l⟩ (.slice A l.length cap) ∧ Below w.heap.size w w4 by
      rw [← hw]
      have x2 := (B2.out.putA a).putB b
      have x1 := (B1.out.other ⟨w.heap.size + 1 + 1, 1, none⟩ (.int .i64 a) (by simp)).other ⟨w.heap.size + 1 + 1, 2, none⟩ (.int .i64 b) (by simp)
      have x0 := (B0.out.other ⟨w.heap.size + 1 + 1, 1, none⟩ (.int .i64 a) (by simp; omega)).other ⟨w.heap.size + 1 + 1, 2, none⟩ (.int .i64 b) (by simp; omega)
      have xb := below_cell (p := ⟨w.heap.size + 1 + 1, 2, none⟩) (below_cell (p := ⟨w.heap.size + 1 + 1, 1, none⟩) HB.out (.int .i64 a) (by simp; omega)) (.int .i64 b) (by simp; omega)
      have y2 := (B2.out.putB b).putA a
      have y1 := (B1.out.other ⟨w.heap.size + 1 + 1, 2, none⟩ (.int .i64 b) (by simp)).other ⟨w.heap.size + 1 + 1, 1, none⟩ (.int .i64 a) (by simp)
      have y0 := (B0.out.other ⟨w.heap.size + 1 + 1, 2, none⟩ (.int .i64 b) (by simp; omega)).other ⟨w.heap.size + 1 + 1, 1, none⟩ (.int .i64 a) (by simp; omega)
      have yb := below_cell (p := ⟨w.heap.size + 1 + 1, 1, none⟩) (below_cell (p := ⟨w.heap.size + 1 + 1, 2, none⟩) HB.out (.int .i64 b) (by simp; omega)) (.int .i64 a) (by simp; omega)
      first
      | exact ⟨x2, x1, x0, ⟨xb.os, xb.tape, xb.output, xb.size, xb.block⟩⟩
      | exact ⟨y2, y1, y0, ⟨yb.os, yb.tape, yb.output, yb.size, yb.block⟩⟩)
    obtain ⟨hz2, hz1, hz0, hzb⟩ := ZZ.out
    have Z2 := Lib.hid hz2
    have Z1 := Lib.hid hz1
    have Z0 := Lib.hid hz0
    have ZB := Lib.hid hzb
    clear hz2 hz1 hz0 hzb hw ZZ u0 u1 k0 k1 k2 k3 k4 k5 i0 i1 i2 i3 i4 i5 kf
    obtain ⟨-, -, -, -, i4, -⟩ := Z0.out.cells
    obtain ⟨z0, z1, z2, z3, z4, z5⟩ := Z2.out.cells
    have zf := Z2.out.free
    simp only at i4 z0 z1 z2 z3 z4 z5
    go_wp2_with (refine store_in rfl _ _ rfl _ ⟨o, a, b, 0, ⟨#[]⟩, []⟩ (.slice none 0 0) rfl rfl rfl _ _ Z1.out ?_)
    refine bodyPost_ret (results_in Try.results92 _ _ _ ⟨o, a, b, 0, ⟨#[]⟩, []⟩ (.slice none 0 0) rfl (Z1.out.row ⟨o, a, b, 0, ⟨#[]⟩, []⟩ (.slice none 0 0))) rfl ?_
    exact ⟨(.slice none 0 0), by rw [HA.out]; try rfl, by rw [HA.out]; exact noInts _, below_rowI ZB.out _ (by omega)⟩
set_option maxRecDepth 100000 in
set_option maxHeartbeats 8000000 in
theorem asked_14 (a b k : Int) (s : ByteArray) (l : List Int) (A : Option Addr) (cap : Nat) (w : World) (hS : Ints w (.slice A l.length cap) l) (hn : l.length * 8 ≤ 140737488355328) :
    Calls Try.prog 92 #[inV ⟨14, a, b, k, s, l⟩ (.slice A l.length cap)] w (AskPost ⟨14, a, b, k, s, l⟩ w) := by
  have HU := Lib.hid (fun (W : World) (hb : Below w.heap.size w W) => uses_any ⟨14, a, b, k, s, l⟩ _ W (hS.next hb) hn)
  have HA := Lib.hid (show askedI ⟨14, a, b, k, s, l⟩ = ⟨14, 0, 0, 0, s, l⟩ from rfl)
  rw [show usesI ⟨14, a, b, k, s, l⟩ = l from rfl] at HU
  have HH := Lib.hid (fun W : World => hasName_any 14 W)
  rw [show ((14 : Int) == 12 || (14 : Int) == 13 || (14 : Int) == 14) = true from rfl] at HH
  clear hS hn
  unfold inV at HU ⊢
  simp only at HU ⊢
  obtain ⟨W, hW⟩ : ∃ W, W = (((w.alloc (.cells (icells ⟨14, a, b, k, s, l⟩ (.slice A l.length cap)) 76)).alloc (.cells (icells zeroIn (.slice none 0 0)) 76)).alloc (.cells (icells ⟨14, 0, 0, 0, ⟨#[]⟩, []⟩ (.slice none 0 0)) 76)) := ⟨_, rfl⟩
  have H3 := Lib.hid (three_new w _ _ _ _ _ _ W hW)
  simp only [icells, zeroIn] at hW
  go_enter Try.func92, Try.ntmps92
  go_wp2_with fail
  rw [← hW]
  refine (HU.out _ H3.out.2.1).mono ?_
  clear hW
  rintro r w2 ⟨v2, rfl, ho, hb⟩
  have HI2 := Lib.hid ho.ints
  have HO := Lib.hid (show OwnsI w2 (w.heap.size + 3) v2 _ by rw [← H3.out.1]; exact ho)
  have B0 := Lib.hid (H3.out.2.2.1.next hb)
  have B1 := Lib.hid (H3.out.2.2.2.1.next hb)
  have B2 := Lib.hid (H3.out.2.2.2.2.next hb)
  have HB := Lib.hid (bthen H3.out.2.1 hb)
  obtain ⟨i0, i1, i2, i3, i4, i5⟩ := B0.out.cells
  obtain ⟨k0, k1, k2, k3, k4, k5⟩ := B2.out.cells
  have kf := B2.out.free
  simp only at i0 i1 i2 i3 i4 i5 k0 k1 k2 k3 k4 k5
  obtain ⟨A2, c2, hv2⟩ := HI2.out.slice
  subst hv2
  have nfix : ∀ n : Nat, n = n := fun _ => rfl
  clear ho hb H3
  go_wp2_with fail
  refine (HH.out _).mono ?_
  rintro r w4 ⟨rfl, rfl⟩
  have Z2 := Lib.hid (B2.out.putL (.slice A2 l.length c2) l)
  have Z1 := Lib.hid (B1.out.other ⟨w.heap.size + 1 + 1, 5, none⟩ (.slice A2 l.length c2) (by simp))
  have Z0 := Lib.hid (B0.out.other ⟨w.heap.size + 1 + 1, 5, none⟩ (.slice A2 l.length c2) (by simp; omega))
  have ZB := Lib.hid (below_cell (p := ⟨w.heap.size + 1 + 1, 5, none⟩) HB.out (.slice A2 l.length c2) (by simp; omega))

  simp only at Z2
  clear k0 k1 k2 k3 k4 k5 i0 i1 i2 i3 i4 i5 kf
  have HO := Lib.hid (HO.out.put (b := w.heap.size + 1 + 1) (i := 5) (u := .slice A2 l.length c2) (by omega))
  generalize w2.setCell ⟨w.heap.size + 1 + 1, 5, none⟩ (.slice A2 l.length c2) = W4 at *
  obtain ⟨-, -, -, -, i4, -⟩ := Z0.out.cells
  obtain ⟨z0, z1, z2, z3, z4, z5⟩ := Z2.out.cells
  have zf := Z2.out.free
  simp only at i4 z0 z1 z2 z3 z4 z5
  have Y1 := Lib.hid (Z1.out.other ⟨w.heap.size + 1 + 1, 4, none⟩ (.string s) (by simp))
  have YB := Lib.hid (below_cell (p := ⟨w.heap.size + 1 + 1, 4, none⟩) ZB.out (.string s) (by simp; omega))
  go_wp2_with (refine store_in rfl _ _ rfl _ ⟨14, 0, 0, 0, s, l⟩ (.slice A2 l.length c2) rfl rfl rfl _ _ Y1.out ?_)
  refine bodyPost_ret (results_in Try.results92 _ _ _ ⟨14, 0, 0, 0, s, l⟩ (.slice A2 l.length c2) rfl (Y1.out.row ⟨14, 0, 0, 0, s, l⟩ (.slice A2 l.length c2))) rfl ?_
  exact ⟨(.slice A2 l.length c2), by rw [HA.out]; try rfl, by rw [HA.out]; exact (OwnsI.ints ((OwnsI.put (HO.out) (b := w.heap.size + 1 + 1) (i := 4) (by omega)).row (by omega))), below_rowI YB.out _ (by omega)⟩
end Go.Proofs.Ytjldddpchiaalaa
