/- What the texts of package resolve stand on, of the packages ir and pick (part 3). -/
import Derived.Test.YtoglmdadpchhoaaHY1
namespace Go.Proofs.Ytoglmdadpchhoaa
open Go.RowKit
set_option maxRecDepth 100000 in
theorem refInts_any (m k : List Int) (A A' : Option Addr) (n n' cap cap' : Nat) (w : World) (hS : Ints w (.slice A n cap) m) (hS' : Ints w (.slice A' n' cap') k) (hn9 : n ≤ 9223372036854775807) (_hn9' : n' ≤ 9223372036854775807) :
    Calls Try.prog 97 #[.slice A n cap, .slice A' n' cap'] w fun e w' => e = .returned (.bool (decide (m = k))) ∧ Below w.heap.size w w' := by
  have HN := Lib.hid (show m.length ≤ n ∧ n ≤ m.length by have := hS.len; omega)
  have HN' := Lib.hid (show k.length ≤ n' ∧ n' ≤ k.length by have := hS'.len; omega)
  have HS := Lib.hid hS
  have HS' := Lib.hid hS'
  have n1 : (n : Int) ≤ 9223372036854775807 := by omega
  clear hS hS' hn9 _hn9'
  go_enter Try.func97, Try.ntmps97
  by_cases hl : n = n'
  case neg =>
    have t : ((n : Int) == (n' : Int)) = false := by simp; omega
    have HV := Lib.hid (show decide (m = k) = false from decide_eq_false (fun e => hl (by have := HN.out; have := HN'.out; rw [e] at *; omega)))
    go_wp2_with fail
    go_ret
    exact ⟨by rw [HV.out]; rfl, Below.refl _ _⟩
  subst hl
  go_wp2_with fail
  go_loopw [5] (fun iv wr => ∃ i : Nat, i ≤ n ∧ iv = .int .i64 i ∧ m.take i = k.take i ∧ Below w.heap.size w wr) (fun iv _ => n - (intOf iv).toNat)
  case atStart => exact ⟨0, Nat.zero_le _, rfl, by simp, Below.refl _ _⟩
  case round =>
    obtain ⟨i, hi, rfl, hs, hb⟩ := hrel
    have HT := Lib.hid hs
    have HB := Lib.hid hb
    clear hs
    by_cases hlt : i < n
    · have hm : i < m.length := by have := HN.out; omega
      have hk : i < k.length := by have := HN'.out; omega
      obtain ⟨b, off, hA, e0⟩ := (HS.out.next hb).at_ hm
      obtain ⟨b', off', hA', e0'⟩ := (HS'.out.next hb).at_ hk
      subst hA hA'
      have HNX := Lib.hid (show m[i] = k[i] → m.take (i + 1) = k.take (i + 1) from fun h => by
        rw [List.take_succ_eq_append_getElem hm, List.take_succ_eq_append_getElem hk, HT.out, h])
      have HNO := Lib.hid (show m[i] ≠ k[i] → decide (m = k) = false from fun h => decide_eq_false (fun e => h (by subst e; rfl)))
      obtain ⟨x, hx⟩ : ∃ x, m[i] = x := ⟨_, rfl⟩
      obtain ⟨y, hy⟩ : ∃ x, k[i] = x := ⟨_, rfl⟩
      rw [hx] at e0 HNX HNO
      rw [hy] at e0' HNX HNO
      have hk0 : (0 : Int) ≤ (i : Int) := Int.natCast_nonneg _
      have hk1 : (i : Int) < (n : Int) := by omega
      have HLT := Lib.hid hlt
      clear hx hy hm hk hlt hb
      go_upto_region 1 with fail
      by_cases hq : x = y
      · subst hq
        have HV := Lib.hid (HNX.out rfl)
        go_quiet (fail)
        go_wp2_with fail
        go_roundw
        case rel => exact ⟨i + 1, HLT.out, by go_num, HV.out, below_drewN HB.out _⟩
        case measure => have := HLT.out; simp [intOf]; omega
      · have tq : (x == y) = false := by simpa using hq
        have HV := Lib.hid (HNO.out hq)
        go_quiet (fail)
        go_wp2_with fail
        go_ret
        exact ⟨by rw [HV.out]; rfl, below_drewN HB.out _⟩
    · have hd : decide ((i : Int) < (n : Int)) = false := by simp; omega
      have HV := Lib.hid (show decide (m = k) = true from decide_eq_true (by
        have h := HT.out
        rwa [List.take_of_length_le (by have := HN.out; omega), List.take_of_length_le (by have := HN'.out; omega)] at h))
      go_wp2_with fail
      go_ret
      exact ⟨by rw [HV.out]; rfl, HB.out⟩
end Go.Proofs.Ytoglmdadpchhoaa
namespace Go.Proofs.Ytoglmdadpchhoaa
open Go.ChangeShapes Go.WideShapes Go.ChangeAt Go.RowKit Go.Deep Go.Joins
/-- lengths that a machine can hold, ranges, and room for a copy -/
def InW (i : In) : Prop := InOk i ∧ (0 ≤ i.k ∧ i.k ≤ 18446744073709551615) ∧ i.l.length * 8 ≤ 140737488355328
def BkW (b : Bk) : Prop := BkOk b ∧ ∀ i ∈ b.i, InW i
def FnW (f : Fn) : Prop := FnOk f ∧ ∀ b ∈ f.l, BkW b
def GlW (g : Gl) : Prop := GlOk g ∧ (0 ≤ g.i ∧ g.i ≤ 18446744073709551615)
def MdW (m : Md) : Prop := (∀ f ∈ m.f, FnW f) ∧ ∀ g ∈ m.g, GlW g
section
variable {H : Type} {enc : TypeId × Value → H} {W : World} {base : Nat} {spare : Nat → Bool} {held : Bool}
theorem weightsAll_mem {P : Program} {e : TypeId} : ∀ {l : List (DataW H)} {d : DataW H}, d ∈ l → ∀ k ∈ d.weights P e, k ∈ DataW.weightsAll P e l
  | x :: l, d, hd, k, hk => by
    rw [DataW.weightsAll]
    rcases List.mem_cons.1 hd with rfl | h
    · exact List.mem_append_left _ hk
    · exact List.mem_append_right _ (weightsAll_mem h k hk)
/-- a row that came in, opened: whatever its elements are, with their weights -/
theorem open_roww {α : Type} {t e : TypeId} {sz : Nat} (P : World → Nat → Nat → α → Prop) (ok : α → Prop) {W : World} {base : Nat} {spare : Nat → Bool} {held : Bool} {c : Value} {fuel : Nat} {y : DataW H × List MemPlace}
    (ht : Try.prog.underlying t = some (.slice e)) (hsz : Try.prog.cellsOf e = sz) (hpos : 0 < sz)
    (hel : ∀ (n b off : Nat) (cs : List Value) (y : DataW H × List MemPlace), (∀ j, j < sz → W.cell? ⟨b, off + j, none⟩ = cs[j]?) → cs.length = sz → DataW.trod enc Try.prog W base spare held n e cs = some y → (∀ k ∈ y.1.weights Try.prog e, k ≤ reachBytes) → ∃ x, ok x ∧ P W b off x)
    (h : DataW.trod enc Try.prog W base spare held fuel t [c] = some y) (hz : ∀ k ∈ y.1.weights Try.prog t, k ≤ reachBytes) :
    ∃ (A : Option Addr) (cap : Nat) (l : List α), c = .slice A l.length cap ∧ RowOf sz P W c l ∧ (∀ x ∈ l, ok x) ∧ l.length ≤ cap ∧ cap ≤ maxLen ∧ l.length * Try.prog.bytesOf e ≤ 140737488351232 := by
  rcases open_slice ht h with ⟨h1, _⟩ | ⟨a, len, cap, m, n, D, Pl, hcs, _, hl, hm, hmm, hy, hat⟩
  · simp only [List.cons.injEq, and_true] at h1
    subst h1
    exact ⟨none, 0, [], rfl, .inl ⟨rfl, .inl rfl⟩, by simp, Nat.le_refl _, by unfold maxLen; omega, by simp⟩
  · simp only [List.cons.injEq, and_true] at hcs
    subst hcs
    have hlm : len ≤ m := by rw [hmm]; split <;> omega
    have hy1 : y.1 = .slice ((List.range len).map D) ((List.range (m - len)).map fun j => D (len + j)) := by rw [hy]
    rw [hy1] at hz
    simp only [DataW.weights, ht, List.length_map, List.length_range, List.mem_cons, List.mem_append] at hz
    have hroom : len * Try.prog.bytesOf e ≤ 140737488351232 := by
      have h1 := hz _ (.inl rfl)
      have h3 : reachBytes = 140737488351232 := rfl
      rw [h3] at h1
      exact Nat.le_trans (Nat.mul_le_mul_right _ (Nat.le_add_right len (m - len))) h1
    by_cases h0 : 0 < len
    · obtain ⟨b, off, spot⟩ := a
      have hspot : spot = none ∧ b < W.heap.size := by
        obtain ⟨cs', hc, ht⟩ := hat 0 (by omega)
        rw [hsz] at hc
        obtain ⟨_, hcl, hca⟩ := World.cells?_some hc
        have k0 := hca 0 hpos
        have hl0 : cs'[0]? = some (cs'[0]'(by omega)) := List.getElem?_eq_getElem (by omega)
        rw [hl0] at k0
        have hb := World.block_lt_of_cell? W _ k0
        refine ⟨by simpa [Addr.add] using World.cell?_spot k0, ?_⟩
        revert hb
        unfold Addr.add
        (repeat' split) <;> simp
      obtain ⟨rfl, hb⟩ := hspot
      have cells : ∀ i, i < len → ∃ x, ok x ∧ P W b (off + i * sz) x := fun i hi => by
        obtain ⟨cs', hc, ht⟩ := hat i (by omega)
        rw [hsz] at hc
        obtain ⟨_, hcl, hca⟩ := World.cells?_some hc
        refine hel n b (off + i * sz) cs' _ (fun j hj => ?_) hcl ht (fun k hk => hz k (.inr (.inl (weightsAll_mem (List.mem_map.2 ⟨i, List.mem_range.2 hi, rfl⟩) k hk))))
        have k := hca j hj
        rwa [add_add, add_plain, ← Nat.add_assoc] at k
      obtain ⟨f, hf⟩ : ∃ f : Nat → α, ∀ i, i < len → ok (f i) ∧ P W b (off + i * sz) (f i) :=
        ⟨fun i => if hi : i < len then Classical.choose (cells i hi) else Classical.choose (cells 0 h0), fun i hi => by
          simp only [dif_pos hi]
          exact Classical.choose_spec (cells i hi)⟩
      refine ⟨some ⟨b, off, none⟩, cap, (List.range len).map f, by simp, .inr ⟨by simp; exact h0, b, off, cap, by simp, hb, fun i hi => ?_⟩, fun x hx => ?_, by simpa using hl, hm, by simpa using hroom⟩
      · rw [List.getElem_map, List.getElem_range]
        exact (hf i (by simpa using hi)).2
      · obtain ⟨i, hi, rfl⟩ := List.mem_map.1 hx
        exact (hf i (List.mem_range.1 hi)).1
    · obtain rfl : len = 0 := by omega
      exact ⟨_, _, [], rfl, .inl ⟨rfl, .inr ⟨_, _, rfl⟩⟩, by simp, hl, hm, by simp⟩
theorem openw_ints {c : Value} {fuel : Nat} {y : DataW H × List MemPlace} (h : DataW.trod enc Try.prog W base spare held fuel 60 [c] = some y) (hz : ∀ k ∈ y.1.weights Try.prog 60, k ≤ reachBytes) :
    ∃ (A : Option Addr) (cap : Nat) (l : List Int), c = .slice A l.length cap ∧ Ints W c l ∧ l.length ≤ 9223372036854775807 ∧ l.length * 8 ≤ 140737488355328 := by
  obtain ⟨A, cap, l, rfl, hr, -, h1, h2, h3⟩ := open_roww (α := Int) (sz := 1) (fun W b off x => W.cell? ⟨b, off, none⟩ = some (.int .i64 x)) (fun _ => True) Try.underlying60 cellsInt (by omega) (fun n b off cs y hc hl ht _ => by
    match cs, hl with
    | [c], _ =>
      obtain ⟨x, e, -, -⟩ := DataW.trod_int Try.underlying3 ht
      simp only [List.cons.injEq, and_true] at e
      subst e
      exact ⟨x, trivial, by simpa using hc 0 (by omega)⟩) h hz
  rw [show Try.prog.bytesOf 3 = 8 by kernel_rfl] at h3
  refine ⟨A, cap, l, rfl, ?_, by rw [maxLen_is] at h2; omega, by omega⟩
  rcases hr with hr | ⟨h0, b, off, c, e, hb, hat⟩
  · exact .inl hr
  · exact .inr ⟨h0, b, off, c, e, hb, fun i hi => by simpa using hat i hi⟩
theorem openw_glob_at (n b off : Nat) (cs : List Value) (y : DataW H × List MemPlace) (hc : ∀ j, j < 4 → W.cell? ⟨b, off + j, none⟩ = cs[j]?) (_hl : cs.length = 4) (ht : DataW.trod enc Try.prog W base spare held n 54 cs = some y) (_hz : ∀ k ∈ y.1.weights Try.prog 54, k ≤ reachBytes) : ∃ x, GlW x ∧ GlAt W b off x := by
  obtain ⟨ys, q, _, _, _, hg⟩ := row_of Try.underlying54 (by kernel_rfl) cellsGlob ht
  obtain ⟨c0, y0, g0, _, r0⟩ := hg 0 _ rfl
  obtain ⟨c1, y1, g1, _, r1⟩ := hg 1 _ rfl
  obtain ⟨c2, y2, g2, _, r2⟩ := hg 2 _ rfl
  obtain ⟨c3, y3, g3, _, r3⟩ := hg 3 _ rfl
  obtain ⟨z0, e0, _, w0⟩ := DataW.trod_string Try.underlying9 r0
  obtain ⟨z1, e1, _, _⟩ := DataW.trod_int Try.underlying3 r1
  obtain ⟨z2, e2, _⟩ := DataW.trod_bool Try.underlying4 r2
  obtain ⟨z3, e3, _, w3⟩ := DataW.trod_int Try.underlying29 r3
  simp only [List.cons.injEq, and_true] at e0 e1 e2 e3
  subst e0 e1 e2 e3
  exact ⟨⟨z0, z1, z2, z3⟩, ⟨by have := w0; rw [maxLen_is] at this; show z0.size < _; omega, bounds_u64 w3⟩, (hc 0 (by omega)).trans g0, (hc 1 (by omega)).trans g1, (hc 2 (by omega)).trans g2, (hc 3 (by omega)).trans g3⟩
end
end Go.Proofs.Ytoglmdadpchhoaa
namespace Go.Proofs.Ytoglmdadpchhoaa
open Go.ChangeShapes Go.WideShapes Go.ChangeAt Go.RowKit Go.Deep Go.Joins
section
variable {H : Type} {enc : TypeId × Value → H} {W : World} {base : Nat} {spare : Nat → Bool} {held : Bool}
theorem bulk_pos (d : DataW H) : 1 ≤ Rows.uptoBulk d := by
  rcases d with l | _ | _ | _ | _ | _ | _ | _
  · cases l <;> simp [Rows.uptoBulk]
  all_goals simp [Rows.uptoBulk]
theorem bulk_len : ∀ l : List (DataW H), l.length ≤ Rows.uptoBulkAll l
  | [] => Nat.le_refl _
  | x :: r => by
    have h1 := bulk_pos x
    have h2 := bulk_len r
    simp only [Rows.uptoBulkAll, List.length_cons]
    omega
theorem bulk_mem : ∀ {l : List (DataW H)} {d : DataW H}, d ∈ l → Rows.uptoBulk d ≤ Rows.uptoBulkAll l
  | x :: r, d, h => by
    simp only [Rows.uptoBulkAll]
    rcases List.mem_cons.1 h with rfl | h
    · omega
    · have := bulk_mem h
      omega
/-- a slice is no longer than what it reads is of bulk -/
theorem slice_bulk {t e : TypeId} {fuel n cap : Nat} {A : Option Addr} {y : DataW H × List MemPlace} (ht : Try.prog.underlying t = some (.slice e)) (h : DataW.trod enc Try.prog W base spare held fuel t [.slice A n cap] = some y) : n ≤ Rows.uptoBulk y.1 := by
  rcases open_slice ht h with ⟨h1, _⟩ | ⟨a, len, cap', m, _, D, Pl, hcs, _, _, _, _, hy, _⟩
  · simp only [List.cons.injEq, and_true] at h1
    cases h1
    exact Nat.zero_le _
  · simp only [List.cons.injEq, and_true] at hcs
    cases hcs
    rw [show y.1 = .slice ((List.range n).map D) ((List.range (m - n)).map fun j => D (n + j)) by rw [hy]]
    have h1 := bulk_len ((List.range n).map D)
    rw [List.length_map, List.length_range] at h1
    simp only [Rows.uptoBulk]
    omega
/-- a row that came in, opened: what its elements are, and of which data -/
theorem open_rowb {α : Type} {t e : TypeId} {sz : Nat} (P : World → Nat → Nat → α → Prop) (ok : α → DataW H → Prop) {W : World} {base : Nat} {spare : Nat → Bool} {held : Bool} {c : Value} {fuel : Nat} {y : DataW H × List MemPlace}
    (ht : Try.prog.underlying t = some (.slice e)) (hsz : Try.prog.cellsOf e = sz) (hpos : 0 < sz)
    (hel : ∀ (n b off : Nat) (cs : List Value) (y : DataW H × List MemPlace), (∀ j, j < sz → W.cell? ⟨b, off + j, none⟩ = cs[j]?) → cs.length = sz → DataW.trod enc Try.prog W base spare held n e cs = some y → (∀ k ∈ y.1.weights Try.prog e, k ≤ reachBytes) → ∃ x, ok x y.1 ∧ P W b off x)
    (h : DataW.trod enc Try.prog W base spare held fuel t [c] = some y) (hz : ∀ k ∈ y.1.weights Try.prog t, k ≤ reachBytes) :
    ∃ (A : Option Addr) (cap : Nat) (l : List α) (ds : List (DataW H)), c = .slice A l.length cap ∧ RowOf sz P W c l ∧ ds.length = l.length ∧ (∀ (i : Nat) (h : i < l.length) (h' : i < ds.length), ok l[i] ds[i]) ∧ l.length ≤ cap ∧ cap ≤ maxLen ∧ Rows.uptoBulkAll ds ≤ Rows.uptoBulk y.1 := by
  rcases open_slice ht h with ⟨h1, _⟩ | ⟨a, len, cap, m, n, D, Pl, hcs, _, hl, hm, hmm, hy, hat⟩
  · simp only [List.cons.injEq, and_true] at h1
    subst h1
    exact ⟨none, 0, [], [], rfl, .inl ⟨rfl, .inl rfl⟩, rfl, fun i h => by simp at h, Nat.le_refl _, by unfold maxLen; omega, Nat.zero_le _⟩
  · simp only [List.cons.injEq, and_true] at hcs
    subst hcs
    have hlm : len ≤ m := by rw [hmm]; split <;> omega
    have hy1 : y.1 = .slice ((List.range len).map D) ((List.range (m - len)).map fun j => D (len + j)) := by rw [hy]
    rw [hy1] at hz
    simp only [DataW.weights, ht, List.length_map, List.length_range, List.mem_cons, List.mem_append] at hz
    have hbulk : Rows.uptoBulkAll ((List.range len).map D) ≤ Rows.uptoBulk y.1 := by
      rw [hy1]
      simp only [Rows.uptoBulk]
      omega
    by_cases h0 : 0 < len
    · obtain ⟨b, off, spot⟩ := a
      have hspot : spot = none ∧ b < W.heap.size := by
        obtain ⟨cs', hc, ht⟩ := hat 0 (by omega)
        rw [hsz] at hc
        obtain ⟨_, hcl, hca⟩ := World.cells?_some hc
        have k0 := hca 0 hpos
        have hl0 : cs'[0]? = some (cs'[0]'(by omega)) := List.getElem?_eq_getElem (by omega)
        rw [hl0] at k0
        have hb := World.block_lt_of_cell? W _ k0
        refine ⟨by simpa [Addr.add] using World.cell?_spot k0, ?_⟩
        revert hb
        unfold Addr.add
        (repeat' split) <;> simp
      obtain ⟨rfl, hb⟩ := hspot
      have cells : ∀ i, i < len → ∃ x, ok x (D i) ∧ P W b (off + i * sz) x := fun i hi => by
        obtain ⟨cs', hc, ht⟩ := hat i (by omega)
        rw [hsz] at hc
        obtain ⟨_, hcl, hca⟩ := World.cells?_some hc
        refine hel n b (off + i * sz) cs' _ (fun j hj => ?_) hcl ht (fun k hk => hz k (.inr (.inl (weightsAll_mem (List.mem_map.2 ⟨i, List.mem_range.2 hi, rfl⟩) k hk))))
        have k := hca j hj
        rwa [add_add, add_plain, ← Nat.add_assoc] at k
      obtain ⟨f, hf⟩ : ∃ f : Nat → α, ∀ i, i < len → ok (f i) (D i) ∧ P W b (off + i * sz) (f i) :=
        ⟨fun i => if hi : i < len then Classical.choose (cells i hi) else Classical.choose (cells 0 h0), fun i hi => by
          simp only [dif_pos hi]
          exact Classical.choose_spec (cells i hi)⟩
      refine ⟨some ⟨b, off, none⟩, cap, (List.range len).map f, (List.range len).map D, by simp, .inr ⟨by simp; exact h0, b, off, cap, by simp, hb, fun i hi => ?_⟩, by simp, fun i h h' => ?_, by simpa using hl, hm, hbulk⟩
      · rw [List.getElem_map, List.getElem_range]
        exact (hf i (by simpa using hi)).2
      · rw [List.getElem_map, List.getElem_map, List.getElem_range]
        exact (hf i (by simpa using h)).1
    · obtain rfl : len = 0 := by omega
      exact ⟨_, _, [], [], rfl, .inl ⟨rfl, .inr ⟨_, _, rfl⟩⟩, rfl, fun i h => by simp at h, hl, hm, Nat.zero_le _⟩
theorem sum_bulk : ∀ (l : List Bk) (ds : List (DataW H)), ds.length = l.length → (∀ (i : Nat) (h : i < l.length) (h' : i < ds.length), l[i].i.length ≤ Rows.uptoBulk ds[i]) → ((l.map (·.i)).flatten).length ≤ Rows.uptoBulkAll ds
  | [], _, _, _ => Nat.zero_le _
  | x :: l, [], h, _ => by simp at h
  | x :: l, d :: ds, h, hk => by
    have h0 := hk 0 (by simp) (by simp)
    simp only [List.getElem_cons_zero] at h0
    have h1 := sum_bulk l ds (by simpa using h) (fun i h h' => by
      have := hk (i + 1) (by simp; omega) (by simp; omega)
      simpa using this)
    rw [List.map_cons, List.flatten_cons, List.length_append]
    simp only [Rows.uptoBulkAll]
    omega
end
end Go.Proofs.Ytoglmdadpchhoaa
namespace Go.Proofs.Ytoglmdadpchhoaa
open Go.RowKit
def listB {α : Type} (p : α → α → Bool) (a b : List α) : Bool := (a.length == b.length) && (a.zip b).all (fun x => p x.1 x.2)
def sameT (t u : Tm) : Bool := t.k == u.k && t.a == u.a && t.t == u.t && decide (t.l = u.l) && t.e == u.e && decide (t.m = u.m)
def sameB (x y : Bk) : Bool := x.p == y.p && listB sameI x.i y.i && sameT x.e y.e
def sameF (x y : Fn) : Bool := x.s == y.s && x.b == y.b && x.p == y.p && listB sameB x.l y.l
def sameG (x y : Gl) : Bool := x.s == y.s && x.b == y.b && x.h == y.h && x.i == y.i
def sameM (m k : Md) : Bool := listB sameF m.f k.f && listB sameG m.g k.g
theorem listB_len {α : Type} {p : α → α → Bool} {a b : List α} (h : a.length ≠ b.length) : listB p a b = false := by
  unfold listB
  rw [show (a.length == b.length) = false by simpa using h]
  rfl
theorem zip_take {α : Type} {p : α → α → Bool} {a b : List α} {i : Nat} (ha : i < a.length) (hb : i < b.length) (h : ((a.take i).zip (b.take i)).all (fun x => p x.1 x.2) = true) :
    ((a.take (i + 1)).zip (b.take (i + 1))).all (fun x => p x.1 x.2) = p a[i] b[i] := by
  rw [List.take_succ_eq_append_getElem ha, List.take_succ_eq_append_getElem hb, List.zip_append (by simp; omega), List.all_append, h]
  simp
theorem zip_no {α : Type} {p : α → α → Bool} {a b : List α} {i : Nat} (ha : i < a.length) (hb : i < b.length) (h : p a[i] b[i] = false) : listB p a b = false := by
  unfold listB
  have : (a.zip b).all (fun x => p x.1 x.2) = false := by
    rw [List.all_eq_false]
    exact ⟨(a.zip b)[i]'(by simp; omega), List.getElem_mem _, by rw [List.getElem_zip]; simp [h]⟩
  rw [this, Bool.and_false]
theorem zip_all {α : Type} {p : α → α → Bool} {a b : List α} {n : Nat} (ha : a.length = n) (hb : b.length = n) (h : ((a.take n).zip (b.take n)).all (fun x => p x.1 x.2) = true) : listB p a b = true := by
  rw [List.take_of_length_le (by omega), List.take_of_length_le (by omega)] at h
  unfold listB
  rw [h, ha, hb]
  simp
end Go.Proofs.Ytoglmdadpchhoaa
namespace Go.Proofs.Ytoglmdadpchhoaa
open Go.RowKit
theorem sameG_eq (s s' : ByteArray) (b i b' i' : Int) (h h' : Bool) : sameG ⟨s, b, h, i⟩ ⟨s', b', h', i'⟩ = ((s == s') && (b == b') && (h == h') && (i == i')) := rfl
set_option maxRecDepth 100000 in
set_option maxHeartbeats 8000000 in
theorem refSameInst_any (p a b k p' a' b' k' : Int) (s s' : ByteArray) (l l' : List Int) (A A' : Option Addr) (n c n' c' : Nat) (w : World) (h9 : n ≤ 9223372036854775807) (h9' : n' ≤ 9223372036854775807) (hS : Ints w (.slice A n c) l) (hS' : Ints w (.slice A' n' c') l') :
    Calls Try.prog 98 #[.agg #[.int .i64 p, .int .i64 a, .int .i64 b, .int .u64 k, .string s, .slice A n c], .agg #[.int .i64 p', .int .i64 a', .int .i64 b', .int .u64 k', .string s', .slice A' n' c']] w fun E w' => E = .returned (.bool (sameI ⟨p, a, b, k, s, l⟩ ⟨p', a', b', k', s', l'⟩)) ∧ Below w.heap.size w w' := by
  have HC1 := Lib.hid (fun (W : World) (hb : Below w.heap.size w W) => refInts_any l l' A A' n n' c c' W (hS.next hb) (hS'.next hb) h9 h9')
  clear hS hS' h9 h9'
  obtain ⟨V, hV⟩ : ∃ V, sameI ⟨p, a, b, k, s, l⟩ ⟨p', a', b', k', s', l'⟩ = V := ⟨_, rfl⟩
  have HE := Lib.hid (show V = ((p == p') && (a == a') && (b == b') && (k == k') && (s == s') && decide (l = l')) from hV.symm)
  rw [hV]
  clear hV
  go_enter Try.func98, Try.ntmps98
  go_upto_region 1 with fail
  have HX := Lib.hid (show ((w.alloc (.cells #[.int .i64 p, .int .i64 a, .int .i64 b, .int .u64 k, .string s, .slice A n c] 62)).alloc (.cells #[.int .i64 p', .int .i64 a', .int .i64 b', .int .u64 k', .string s', .slice A' n' c'] 62)).heap[w.heap.size]? = some (.cells #[.int .i64 p, .int .i64 a, .int .i64 b, .int .u64 k, .string s, .slice A n c] 62 (0, 0)) from ((balloc (Below.refl _ _) (.cells #[.int .i64 p', .int .i64 a', .int .i64 b', .int .u64 k', .string s', .slice A' n' c'] 62)).block w.heap.size (Array.getElem?_eq_some_iff.1 (heap_alloc_new w (.cells #[.int .i64 p, .int .i64 a, .int .i64 b, .int .u64 k, .string s, .slice A n c] 62))).1).trans (heap_alloc_new w (.cells #[.int .i64 p, .int .i64 a, .int .i64 b, .int .u64 k, .string s, .slice A n c] 62)))
  have HY := Lib.hid (show ((w.alloc (.cells #[.int .i64 p, .int .i64 a, .int .i64 b, .int .u64 k, .string s, .slice A n c] 62)).alloc (.cells #[.int .i64 p', .int .i64 a', .int .i64 b', .int .u64 k', .string s', .slice A' n' c'] 62)).heap[w.heap.size + 1]? = some (.cells #[.int .i64 p', .int .i64 a', .int .i64 b', .int .u64 k', .string s', .slice A' n' c'] 62 (0, 0)) from by
    have e := heap_alloc_new (w.alloc (.cells #[.int .i64 p, .int .i64 a, .int .i64 b, .int .u64 k, .string s, .slice A n c] 62)) (.cells #[.int .i64 p', .int .i64 a', .int .i64 b', .int .u64 k', .string s', .slice A' n' c'] 62)
    rwa [World.size_alloc] at e)
  have HB := Lib.hid (boxes2 w #[.int .i64 p, .int .i64 a, .int .i64 b, .int .u64 k, .string s, .slice A n c] #[.int .i64 p', .int .i64 a', .int .i64 b', .int .u64 k', .string s', .slice A' n' c'] 62)
  generalize (w.alloc (.cells #[.int .i64 p, .int .i64 a, .int .i64 b, .int .u64 k, .string s, .slice A n c] 62)).alloc (.cells #[.int .i64 p', .int .i64 a', .int .i64 b', .int .u64 k', .string s', .slice A' n' c'] 62) = W0 at *
  have c0 := Lib.cell_of_heap HX.out 0
  have c1 := Lib.cell_of_heap HX.out 1
  have c2 := Lib.cell_of_heap HX.out 2
  have c3 := Lib.cell_of_heap HX.out 3
  have c4 := Lib.cell_of_heap HX.out 4
  have c5 := Lib.cell_of_heap HX.out 5
  simp only [List.getElem?_toArray, List.getElem?_cons_zero, List.getElem?_cons_succ] at c0 c1 c2 c3 c4 c5
  have d0 := Lib.cell_of_heap HY.out 0
  have d1 := Lib.cell_of_heap HY.out 1
  have d2 := Lib.cell_of_heap HY.out 2
  have d3 := Lib.cell_of_heap HY.out 3
  have d4 := Lib.cell_of_heap HY.out 4
  have d5 := Lib.cell_of_heap HY.out 5
  simp only [List.getElem?_toArray, List.getElem?_cons_zero, List.getElem?_cons_succ] at d0 d1 d2 d3 d4 d5
  go_wp2_with fail
  refine (HC1.out _ HB.out).mono ?_
  rintro r u0 ⟨rfl, hb0⟩
  have HB0 := Lib.hid (bthen HB.out hb0)
  have HX0 := Lib.hid ((hb0.block _ (Array.getElem?_eq_some_iff.1 HX.out).1).trans HX.out)
  have HY0 := Lib.hid ((hb0.block _ (Array.getElem?_eq_some_iff.1 HY.out).1).trans HY.out)
  clear hb0 c0 d0 c1 d1 c2 d2 c3 d3 c4 d4 c5 d5
  obtain ⟨q0, hq0⟩ : ∃ q, decide (l = l') = q := ⟨_, rfl⟩
  rw [hq0] at HE ⊢
  clear hq0
  have c0 := Lib.cell_of_heap HX0.out 0
  have c1 := Lib.cell_of_heap HX0.out 1
  have c2 := Lib.cell_of_heap HX0.out 2
  have c3 := Lib.cell_of_heap HX0.out 3
  have c4 := Lib.cell_of_heap HX0.out 4
  have c5 := Lib.cell_of_heap HX0.out 5
  simp only [List.getElem?_toArray, List.getElem?_cons_zero, List.getElem?_cons_succ] at c0 c1 c2 c3 c4 c5
  have d0 := Lib.cell_of_heap HY0.out 0
  have d1 := Lib.cell_of_heap HY0.out 1
  have d2 := Lib.cell_of_heap HY0.out 2
  have d3 := Lib.cell_of_heap HY0.out 3
  have d4 := Lib.cell_of_heap HY0.out 4
  have d5 := Lib.cell_of_heap HY0.out 5
  simp only [List.getElem?_toArray, List.getElem?_cons_zero, List.getElem?_cons_succ] at d0 d1 d2 d3 d4 d5
  cases q0 with
  | false =>
    have HV := Lib.hid (show V = false by rw [HE.out]; simp)
    go_wp2_with fail
    go_ret
    exact ⟨by rw [HV.out]; rfl, HB0.out⟩
  | true =>
    by_cases h1 : p = p'
    case neg =>
      have n1 : (p == p') = false := by simpa using h1
      have HV := Lib.hid (show V = false by rw [HE.out, n1]; simp)
      go_wp2_with fail
      go_ret
      exact ⟨by rw [HV.out]; rfl, HB0.out⟩
    have p1 : (p == p') = true := by simpa using h1
    rw [p1] at HE
    clear h1
    by_cases h2 : a = a'
    case neg =>
      have n2 : (a == a') = false := by simpa using h2
      have HV := Lib.hid (show V = false by rw [HE.out, n2]; simp)
      go_wp2_with fail
      go_ret
      exact ⟨by rw [HV.out]; rfl, HB0.out⟩
    have p2 : (a == a') = true := by simpa using h2
    rw [p2] at HE
    clear h2
    by_cases h3 : b = b'
    case neg =>
      have n3 : (b == b') = false := by simpa using h3
      have HV := Lib.hid (show V = false by rw [HE.out, n3]; simp)
      go_wp2_with fail
      go_ret
      exact ⟨by rw [HV.out]; rfl, HB0.out⟩
    have p3 : (b == b') = true := by simpa using h3
    rw [p3] at HE
    clear h3
    by_cases h4 : k = k'
    case neg =>
      have n4 : (k == k') = false := by simpa using h4
      have HV := Lib.hid (show V = false by rw [HE.out, n4]; simp)
      go_wp2_with fail
      go_ret
      exact ⟨by rw [HV.out]; rfl, HB0.out⟩
    have p4 : (k == k') = true := by simpa using h4
    rw [p4] at HE
    clear h4
    cases h5 : s == s' with
    | false =>
      have n5 : (s.toList == s'.toList) = false := by rw [← beq_toListBytes]; exact h5
      have HV := Lib.hid (show V = false by rw [HE.out, h5]; simp)
      go_wp2_with fail
      go_ret
      exact ⟨by rw [HV.out]; rfl, HB0.out⟩
    | true =>
      have n5 : (s.toList == s'.toList) = true := by rw [← beq_toListBytes]; exact h5
      rw [h5] at HE
      clear h5
      have HV := Lib.hid (show V = true by rw [HE.out]; rfl)
      go_wp2_with fail
      go_ret
      exact ⟨by rw [HV.out]; rfl, HB0.out⟩
theorem sameB_swap (x1 x2 x3 x4 x5 x6 x7 x8 : Bool) : (x1 && x2 && (x3 && x4 && x5 && x6 && x7 && x8)) = (x6 && x8 && x1 && x3 && x4 && x5 && x7 && x2) := by
  cases x1 <;> cases x2 <;> cases x3 <;> cases x4 <;> cases x5 <;> cases x6 <;> cases x7 <;> cases x8 <;> rfl
set_option maxRecDepth 100000 in
set_option maxHeartbeats 8000000 in
theorem refSameBlock_any (p k a t e p' k' a' t' e' : Int) (xs ys : List In) (l h l' h' : List Int) (A B C A' B' C' : Option Addr) (q c m d n s q' c' m' d' n' s' : Nat) (w : World) (hr : xs.length = n) (hr' : ys.length = n') (hr9 : n ≤ 9223372036854775807) (_hr9' : n' ≤ 9223372036854775807) (hoi : ∀ x ∈ xs, x.l.length ≤ 9223372036854775807) (hoi' : ∀ x ∈ ys, x.l.length ≤ 9223372036854775807) (h9 : q ≤ 9223372036854775807) (h9' : m ≤ 9223372036854775807) (h8 : q' ≤ 9223372036854775807) (h8' : m' ≤ 9223372036854775807) (hI : Insts w (.slice C n s) xs) (hI' : Insts w (.slice C' n' s') ys) (hS : Ints w (.slice A q c) l) (hS' : Ints w (.slice A' q' c') l') (hR : Ints w (.slice B m d) h) (hR' : Ints w (.slice B' m' d') h') :
    Calls Try.prog 79 #[.agg #[.int .i64 p, .slice C n s, .int .i64 k, .int .i64 a, .int .i64 t, .slice A q c, .int .i64 e, .slice B m d], .agg #[.int .i64 p', .slice C' n' s', .int .i64 k', .int .i64 a', .int .i64 t', .slice A' q' c', .int .i64 e', .slice B' m' d']] w fun E w' => E = .returned (.bool (sameB ⟨p, xs, ⟨k, a, t, l, e, h⟩⟩ ⟨p', ys, ⟨k', a', t', l', e', h'⟩⟩)) ∧ Below w.heap.size w w' := by
  have HC1 := Lib.hid (fun (W : World) (hb : Below w.heap.size w W) => refInts_any l l' A A' q q' c c' W (hS.next hb) (hS'.next hb) h9 h8)
  have HC2 := Lib.hid (fun (W : World) (hb : Below w.heap.size w W) => refInts_any h h' B B' m m' d d' W (hR.next hb) (hR'.next hb) h9' h8')
  have HN := Lib.hid (show xs.length ≤ n ∧ n ≤ xs.length by omega)
  have HN' := Lib.hid (show ys.length ≤ n' ∧ n' ≤ ys.length by omega)
  have HS := Lib.hid hI
  have HS' := Lib.hid hI'
  have HOK := Lib.hid hoi
  have HOK' := Lib.hid hoi'
  have n1 : (n : Int) ≤ 9223372036854775807 := by omega
  clear hI hI' hS hS' hR hR' h9 h9' h8 h8' hr hr' hr9 hoi hoi'
  obtain ⟨V, hV⟩ : ∃ V, sameB ⟨p, xs, ⟨k, a, t, l, e, h⟩⟩ ⟨p', ys, ⟨k', a', t', l', e', h'⟩⟩ = V := ⟨_, rfl⟩
  have HE := Lib.hid (show V = (decide (l = l') && decide (h = h') && (p == p') && (k == k') && (a == a') && (t == t') && (e == e') && listB sameI xs ys) from by rw [← hV]; unfold sameB sameT; simp only; rw [sameB_swap])
  rw [hV]
  clear hV
  go_enter Try.func79, Try.ntmps79
  go_upto_region 1 with fail
  have HX := Lib.hid (show ((w.alloc (.cells #[.int .i64 p, .slice C n s, .int .i64 k, .int .i64 a, .int .i64 t, .slice A q c, .int .i64 e, .slice B m d] 67)).alloc (.cells #[.int .i64 p', .slice C' n' s', .int .i64 k', .int .i64 a', .int .i64 t', .slice A' q' c', .int .i64 e', .slice B' m' d'] 67)).heap[w.heap.size]? = some (.cells #[.int .i64 p, .slice C n s, .int .i64 k, .int .i64 a, .int .i64 t, .slice A q c, .int .i64 e, .slice B m d] 67 (0, 0)) from ((balloc (Below.refl _ _) (.cells #[.int .i64 p', .slice C' n' s', .int .i64 k', .int .i64 a', .int .i64 t', .slice A' q' c', .int .i64 e', .slice B' m' d'] 67)).block w.heap.size (Array.getElem?_eq_some_iff.1 (heap_alloc_new w (.cells #[.int .i64 p, .slice C n s, .int .i64 k, .int .i64 a, .int .i64 t, .slice A q c, .int .i64 e, .slice B m d] 67))).1).trans (heap_alloc_new w (.cells #[.int .i64 p, .slice C n s, .int .i64 k, .int .i64 a, .int .i64 t, .slice A q c, .int .i64 e, .slice B m d] 67)))
  have HY := Lib.hid (show ((w.alloc (.cells #[.int .i64 p, .slice C n s, .int .i64 k, .int .i64 a, .int .i64 t, .slice A q c, .int .i64 e, .slice B m d] 67)).alloc (.cells #[.int .i64 p', .slice C' n' s', .int .i64 k', .int .i64 a', .int .i64 t', .slice A' q' c', .int .i64 e', .slice B' m' d'] 67)).heap[w.heap.size + 1]? = some (.cells #[.int .i64 p', .slice C' n' s', .int .i64 k', .int .i64 a', .int .i64 t', .slice A' q' c', .int .i64 e', .slice B' m' d'] 67 (0, 0)) from by
    have e := heap_alloc_new (w.alloc (.cells #[.int .i64 p, .slice C n s, .int .i64 k, .int .i64 a, .int .i64 t, .slice A q c, .int .i64 e, .slice B m d] 67)) (.cells #[.int .i64 p', .slice C' n' s', .int .i64 k', .int .i64 a', .int .i64 t', .slice A' q' c', .int .i64 e', .slice B' m' d'] 67)
    rwa [World.size_alloc] at e)
  have HB := Lib.hid (boxes2 w #[.int .i64 p, .slice C n s, .int .i64 k, .int .i64 a, .int .i64 t, .slice A q c, .int .i64 e, .slice B m d] #[.int .i64 p', .slice C' n' s', .int .i64 k', .int .i64 a', .int .i64 t', .slice A' q' c', .int .i64 e', .slice B' m' d'] 67)
  generalize (w.alloc (.cells #[.int .i64 p, .slice C n s, .int .i64 k, .int .i64 a, .int .i64 t, .slice A q c, .int .i64 e, .slice B m d] 67)).alloc (.cells #[.int .i64 p', .slice C' n' s', .int .i64 k', .int .i64 a', .int .i64 t', .slice A' q' c', .int .i64 e', .slice B' m' d'] 67) = W0 at *
  have c0 := Lib.cell_of_heap HX.out 0
  have c1 := Lib.cell_of_heap HX.out 1
  have c2 := Lib.cell_of_heap HX.out 2
  have c3 := Lib.cell_of_heap HX.out 3
  have c4 := Lib.cell_of_heap HX.out 4
  have c5 := Lib.cell_of_heap HX.out 5
  have c6 := Lib.cell_of_heap HX.out 6
  have c7 := Lib.cell_of_heap HX.out 7
  simp only [List.getElem?_toArray, List.getElem?_cons_zero, List.getElem?_cons_succ] at c0 c1 c2 c3 c4 c5 c6 c7
  have d0 := Lib.cell_of_heap HY.out 0
  have d1 := Lib.cell_of_heap HY.out 1
  have d2 := Lib.cell_of_heap HY.out 2
  have d3 := Lib.cell_of_heap HY.out 3
  have d4 := Lib.cell_of_heap HY.out 4
  have d5 := Lib.cell_of_heap HY.out 5
  have d6 := Lib.cell_of_heap HY.out 6
  have d7 := Lib.cell_of_heap HY.out 7
  simp only [List.getElem?_toArray, List.getElem?_cons_zero, List.getElem?_cons_succ] at d0 d1 d2 d3 d4 d5 d6 d7
  go_wp2_with fail
  refine (HC1.out _ HB.out).mono ?_
  rintro r u0 ⟨rfl, hb0⟩
  have HB0 := Lib.hid (bthen HB.out hb0)
  have HX0 := Lib.hid ((hb0.block _ (Array.getElem?_eq_some_iff.1 HX.out).1).trans HX.out)
  have HY0 := Lib.hid ((hb0.block _ (Array.getElem?_eq_some_iff.1 HY.out).1).trans HY.out)
  clear hb0 c0 d0 c1 d1 c2 d2 c3 d3 c4 d4 c5 d5 c6 d6 c7 d7
  obtain ⟨q0, hq0⟩ : ∃ q, decide (l = l') = q := ⟨_, rfl⟩
  rw [hq0] at HE ⊢
  clear hq0
  have c0 := Lib.cell_of_heap HX0.out 0
  have c1 := Lib.cell_of_heap HX0.out 1
  have c2 := Lib.cell_of_heap HX0.out 2
  have c3 := Lib.cell_of_heap HX0.out 3
  have c4 := Lib.cell_of_heap HX0.out 4
  have c5 := Lib.cell_of_heap HX0.out 5
  have c6 := Lib.cell_of_heap HX0.out 6
  have c7 := Lib.cell_of_heap HX0.out 7
  simp only [List.getElem?_toArray, List.getElem?_cons_zero, List.getElem?_cons_succ] at c0 c1 c2 c3 c4 c5 c6 c7
  have d0 := Lib.cell_of_heap HY0.out 0
  have d1 := Lib.cell_of_heap HY0.out 1
  have d2 := Lib.cell_of_heap HY0.out 2
  have d3 := Lib.cell_of_heap HY0.out 3
  have d4 := Lib.cell_of_heap HY0.out 4
  have d5 := Lib.cell_of_heap HY0.out 5
  have d6 := Lib.cell_of_heap HY0.out 6
  have d7 := Lib.cell_of_heap HY0.out 7
  simp only [List.getElem?_toArray, List.getElem?_cons_zero, List.getElem?_cons_succ] at d0 d1 d2 d3 d4 d5 d6 d7
  cases q0 with
  | false =>
    have HV := Lib.hid (show V = false by rw [HE.out]; simp)
    go_wp2_with fail
    go_ret
    exact ⟨by rw [HV.out]; rfl, HB0.out⟩
  | true =>
    go_wp2_with fail
    refine (HC2.out _ HB0.out).mono ?_
    rintro r u1 ⟨rfl, hb1⟩
    have HB1 := Lib.hid (bthen HB0.out hb1)
    have HX1 := Lib.hid ((hb1.block _ (Array.getElem?_eq_some_iff.1 HX0.out).1).trans HX0.out)
    have HY1 := Lib.hid ((hb1.block _ (Array.getElem?_eq_some_iff.1 HY0.out).1).trans HY0.out)
    clear hb1 c0 d0 c1 d1 c2 d2 c3 d3 c4 d4 c5 d5 c6 d6 c7 d7
    obtain ⟨q1, hq1⟩ : ∃ q, decide (h = h') = q := ⟨_, rfl⟩
    rw [hq1] at HE ⊢
    clear hq1
    have c0 := Lib.cell_of_heap HX1.out 0
    have c1 := Lib.cell_of_heap HX1.out 1
    have c2 := Lib.cell_of_heap HX1.out 2
    have c3 := Lib.cell_of_heap HX1.out 3
    have c4 := Lib.cell_of_heap HX1.out 4
    have c5 := Lib.cell_of_heap HX1.out 5
    have c6 := Lib.cell_of_heap HX1.out 6
    have c7 := Lib.cell_of_heap HX1.out 7
    simp only [List.getElem?_toArray, List.getElem?_cons_zero, List.getElem?_cons_succ] at c0 c1 c2 c3 c4 c5 c6 c7
    have d0 := Lib.cell_of_heap HY1.out 0
    have d1 := Lib.cell_of_heap HY1.out 1
    have d2 := Lib.cell_of_heap HY1.out 2
    have d3 := Lib.cell_of_heap HY1.out 3
    have d4 := Lib.cell_of_heap HY1.out 4
    have d5 := Lib.cell_of_heap HY1.out 5
    have d6 := Lib.cell_of_heap HY1.out 6
    have d7 := Lib.cell_of_heap HY1.out 7
    simp only [List.getElem?_toArray, List.getElem?_cons_zero, List.getElem?_cons_succ] at d0 d1 d2 d3 d4 d5 d6 d7
    cases q1 with
    | false =>
      have HV := Lib.hid (show V = false by rw [HE.out]; simp)
      go_wp2_with fail
      go_ret
      exact ⟨by rw [HV.out]; rfl, HB1.out⟩
    | true =>
      by_cases h2 : p = p'
      case neg =>
        have n2 : (p == p') = false := by simpa using h2
        have HV := Lib.hid (show V = false by rw [HE.out, n2]; simp)
        go_wp2_with fail
        go_ret
        exact ⟨by rw [HV.out]; rfl, HB1.out⟩
      subst h2
      rw [show (p == p) = true by simp] at HE
      by_cases hl : n = n'
      case neg =>
        have nl : ((n : Int) == (n' : Int)) = false := by simp; omega
        have HV := Lib.hid (show V = false by rw [HE.out, listB_len (by have := HN.out; have := HN'.out; omega)]; simp)
        go_wp2_with fail
        go_ret
        exact ⟨by rw [HV.out]; rfl, HB1.out⟩
      subst hl
      by_cases h4 : k = k'
      case neg =>
        have n4 : (k == k') = false := by simpa using h4
        have HV := Lib.hid (show V = false by rw [HE.out, n4]; simp)
        go_wp2_with fail
        go_ret
        exact ⟨by rw [HV.out]; rfl, HB1.out⟩
      subst h4
      rw [show (k == k) = true by simp] at HE
      by_cases h5 : a = a'
      case neg =>
        have n5 : (a == a') = false := by simpa using h5
        have HV := Lib.hid (show V = false by rw [HE.out, n5]; simp)
        go_wp2_with fail
        go_ret
        exact ⟨by rw [HV.out]; rfl, HB1.out⟩
      subst h5
      rw [show (a == a) = true by simp] at HE
      by_cases h6 : t = t'
      case neg =>
        have n6 : (t == t') = false := by simpa using h6
        have HV := Lib.hid (show V = false by rw [HE.out, n6]; simp)
        go_wp2_with fail
        go_ret
        exact ⟨by rw [HV.out]; rfl, HB1.out⟩
      subst h6
      rw [show (t == t) = true by simp] at HE
      by_cases h7 : e = e'
      case neg =>
        have n7 : (e == e') = false := by simpa using h7
        have HV := Lib.hid (show V = false by rw [HE.out, n7]; simp)
        go_wp2_with fail
        go_ret
        exact ⟨by rw [HV.out]; rfl, HB1.out⟩
      subst h7
      rw [show (e == e) = true by simp] at HE
      go_wp2_with fail
      clear c0 c1 c2 c3 c4 c5 c6 c7 d0 d1 d2 d3 d4 d5 d6 d7
      go_loopw [6] (fun iv wr => ∃ i : Nat, i ≤ n ∧ iv = .int .i64 i ∧ ((xs.take i).zip (ys.take i)).all (fun x => sameI x.1 x.2) = true ∧ wr.heap[w.heap.size]? = some (.cells #[.int .i64 p, .slice C n s, .int .i64 k, .int .i64 a, .int .i64 t, .slice A q c, .int .i64 e, .slice B m d] 67 (0, 0)) ∧ wr.heap[w.heap.size + 1]? = some (.cells #[.int .i64 p, .slice C' n s', .int .i64 k, .int .i64 a, .int .i64 t, .slice A' q' c', .int .i64 e, .slice B' m' d'] 67 (0, 0)) ∧ Below w.heap.size w wr) (fun iv _ => n - (intOf iv).toNat)
      case atStart => exact ⟨0, Nat.zero_le _, rfl, by simp, HX1.out, HY1.out, HB1.out⟩
      case round =>
        obtain ⟨i, hi, rfl, hs, hxx, hyy, hb⟩ := hrel
        have HT := Lib.hid hs
        have HXX := Lib.hid hxx
        have HYY := Lib.hid hyy
        have HBB := Lib.hid hb
        have c1 := Lib.cell_of_heap hxx 1
        simp only [List.getElem?_toArray, List.getElem?_cons_zero, List.getElem?_cons_succ] at c1
        have d1 := Lib.cell_of_heap hyy 1
        simp only [List.getElem?_toArray, List.getElem?_cons_zero, List.getElem?_cons_succ] at d1
        clear hs hxx hyy
        by_cases hlt : i < n
        · have hm : i < xs.length := by have := HN.out; omega
          have hk : i < ys.length := by have := HN'.out; omega
          obtain ⟨b1, off, hA, hbl, e0⟩ := RowOf.at_ (HS.out.next hb) hm
          obtain ⟨b2, off2, hA2, hbl2, e2⟩ := RowOf.at_ (HS'.out.next hb) hk
          subst hA hA2
          have HNX := Lib.hid (zip_take hm hk HT.out)
          have HNO := Lib.hid (fun h => zip_no (p := sameI) hm hk h)
          have hox := HOK.out _ (List.getElem_mem hm)
          have hoy := HOK'.out _ (List.getElem_mem hk)
          obtain ⟨x, hx⟩ : ∃ x, xs[i] = x := ⟨_, rfl⟩
          obtain ⟨y, hy⟩ : ∃ y, ys[i] = y := ⟨_, rfl⟩
          rw [hx] at e0 HNX HNO hox
          rw [hy] at e2 HNX HNO hoy
          obtain ⟨g0, g1, g2, g3, g4, A5, z5, g5, hi5⟩ := e0
          obtain ⟨k0, k1, k2, k3, k4, A6, z6, k5, hi6⟩ := e2
          have HC := Lib.hid (fun (U : World) (hu : Below wr.heap.size wr U) => refSameInst_any x.o x.a x.b x.k y.o y.a y.b y.k x.s y.s x.l y.l A5 A6 _ z5 _ z6 U hox hoy (hi5.next hu) (hi6.next hu))
          rw [show sameI ⟨x.o, x.a, x.b, x.k, x.s, x.l⟩ ⟨y.o, y.a, y.b, y.k, y.s, y.l⟩ = sameI x y from rfl] at HC
          obtain ⟨x0, hx0⟩ : ∃ z, x.o = z := ⟨_, rfl⟩
          obtain ⟨x1, hx1⟩ : ∃ z, x.a = z := ⟨_, rfl⟩
          obtain ⟨x2, hx2⟩ : ∃ z, x.b = z := ⟨_, rfl⟩
          obtain ⟨x3, hx3⟩ : ∃ z, x.k = z := ⟨_, rfl⟩
          obtain ⟨x4, hx4⟩ : ∃ z, x.s = z := ⟨_, rfl⟩
          obtain ⟨x5, hx5⟩ : ∃ z, x.l.length = z := ⟨_, rfl⟩
          obtain ⟨y0, hy0⟩ : ∃ z, y.o = z := ⟨_, rfl⟩
          obtain ⟨y1, hy1⟩ : ∃ z, y.a = z := ⟨_, rfl⟩
          obtain ⟨y2, hy2⟩ : ∃ z, y.b = z := ⟨_, rfl⟩
          obtain ⟨y3, hy3⟩ : ∃ z, y.k = z := ⟨_, rfl⟩
          obtain ⟨y4, hy4⟩ : ∃ z, y.s = z := ⟨_, rfl⟩
          obtain ⟨y5, hy5⟩ : ∃ z, y.l.length = z := ⟨_, rfl⟩
          rw [hx0, hx1, hx2, hx3, hx4, hx5, hy0, hy1, hy2, hy3, hy4, hy5] at HC
          rw [hx0] at g0
          rw [hy0] at k0
          rw [hx1] at g1
          rw [hy1] at k1
          rw [hx2] at g2
          rw [hy2] at k2
          rw [hx3] at g3
          rw [hy3] at k3
          rw [hx4] at g4
          rw [hy4] at k4
          rw [hx5] at g5
          rw [hy5] at k5
          clear hi5 hi6 hx0 hx1 hx2 hx3 hx4 hx5 hy0 hy1 hy2 hy3 hy4 hy5
          obtain ⟨X, hX⟩ : ∃ X, sameI x y = X := ⟨_, rfl⟩
          rw [hX] at HC HNX HNO
          have HV0 := Lib.hid (show X = false → V = false from fun h => by rw [HE.out, HNO.out h]; rfl)
          have hk0 : (0 : Int) ≤ (i : Int) := Int.natCast_nonneg _
          have hk1 : (i : Int) < (n : Int) := by omega
          have HLT := Lib.hid hlt
          have HW := Lib.hid (fun (U : World) (hU : Below wr.heap.size wr U) => (show U.cell? ⟨w.heap.size, 1, none⟩ = some (.slice (some ⟨b1, off, none⟩) n s) ∧ U.cell? ⟨w.heap.size + 1, 1, none⟩ = some (.slice (some ⟨b2, off2, none⟩) n s') ∧ U.cell? ⟨b1, off + i * 6, none⟩ = some (.int .i64 x0) ∧ U.cell? ⟨b1, off + i * 6 + 1, none⟩ = some (.int .i64 x1) ∧ U.cell? ⟨b1, off + i * 6 + 2, none⟩ = some (.int .i64 x2) ∧ U.cell? ⟨b1, off + i * 6 + 3, none⟩ = some (.int .u64 x3) ∧ U.cell? ⟨b1, off + i * 6 + 4, none⟩ = some (.string x4) ∧ U.cell? ⟨b1, off + i * 6 + 5, none⟩ = some (.slice A5 x5 z5) ∧ U.cell? ⟨b2, off2 + i * 6, none⟩ = some (.int .i64 y0) ∧ U.cell? ⟨b2, off2 + i * 6 + 1, none⟩ = some (.int .i64 y1) ∧ U.cell? ⟨b2, off2 + i * 6 + 2, none⟩ = some (.int .i64 y2) ∧ U.cell? ⟨b2, off2 + i * 6 + 3, none⟩ = some (.int .u64 y3) ∧ U.cell? ⟨b2, off2 + i * 6 + 4, none⟩ = some (.string y4) ∧ U.cell? ⟨b2, off2 + i * 6 + 5, none⟩ = some (.slice A6 y5 z6) ∧ Below wr.heap.size wr U from by
            have hxu := (hU.block _ (Array.getElem?_eq_some_iff.1 HXX.out).1).trans HXX.out
            have hyu := (hU.block _ (Array.getElem?_eq_some_iff.1 HYY.out).1).trans HYY.out
            exact ⟨Lib.cell_of_heap hxu 1, Lib.cell_of_heap hyu 1, (cellNext hbl hU _).trans g0, (cellNext hbl hU _).trans g1, (cellNext hbl hU _).trans g2, (cellNext hbl hU _).trans g3, (cellNext hbl hU _).trans g4, (cellNext hbl hU _).trans g5, (cellNext hbl2 hU _).trans k0, (cellNext hbl2 hU _).trans k1, (cellNext hbl2 hU _).trans k2, (cellNext hbl2 hU _).trans k3, (cellNext hbl2 hU _).trans k4, (cellNext hbl2 hU _).trans k5, hU⟩))
          clear hx hy hm hk hlt hX hox hoy HNO hb hbl hbl2 g0 g1 g2 g3 g4 g5 k0 k1 k2 k3 k4 k5
          go_upto_region 7 with fail
          clear c1 d1
          go_cut [7] from 86 to 97 (fun v7 wx => v7 = .bool X ∧ Below wr.heap.size wr wx)
          case first =>
            have hd := HW.out _ (Below.refl _ wr).drew
            refine wp_region_held_drew (S := (fun U => U.cell? ⟨w.heap.size, 1, none⟩ = some (.slice (some ⟨b1, off, none⟩) n s) ∧ U.cell? ⟨w.heap.size + 1, 1, none⟩ = some (.slice (some ⟨b2, off2, none⟩) n s') ∧ U.cell? ⟨b1, off + i * 6, none⟩ = some (.int .i64 x0) ∧ U.cell? ⟨b1, off + i * 6 + 1, none⟩ = some (.int .i64 x1) ∧ U.cell? ⟨b1, off + i * 6 + 2, none⟩ = some (.int .i64 x2) ∧ U.cell? ⟨b1, off + i * 6 + 3, none⟩ = some (.int .u64 x3) ∧ U.cell? ⟨b1, off + i * 6 + 4, none⟩ = some (.string x4) ∧ U.cell? ⟨b1, off + i * 6 + 5, none⟩ = some (.slice A5 x5 z5) ∧ U.cell? ⟨b2, off2 + i * 6, none⟩ = some (.int .i64 y0) ∧ U.cell? ⟨b2, off2 + i * 6 + 1, none⟩ = some (.int .i64 y1) ∧ U.cell? ⟨b2, off2 + i * 6 + 2, none⟩ = some (.int .i64 y2) ∧ U.cell? ⟨b2, off2 + i * 6 + 3, none⟩ = some (.int .u64 y3) ∧ U.cell? ⟨b2, off2 + i * 6 + 4, none⟩ = some (.string y4) ∧ U.cell? ⟨b2, off2 + i * 6 + 5, none⟩ = some (.slice A6 y5 z6) ∧ Below wr.heap.size wr U)) (by kernel_rfl) hd (fun hHeld => ?_)
            refine wpAnyH_take (i := 0) (v := ?_) rfl (by kernel_rfl) (by kernel_rfl) (by kernel_rfl) (fun _ _ _ h => h) (Or.inl ⟨by rfl, ?_⟩) hHeld ?_
            rotate_left
            · intro W' hSw; (try dsimp only at hSw); go_simp; try (with_reducible rfl)
            (try simp only [Act.put, List.getElem_toArray, List.getElem_cons_zero, List.setIfInBounds_toArray, List.set_cons_zero, List.set_cons_succ])
            refine wpAnyH_take (i := 1) (v := ?_) rfl (by kernel_rfl) (by kernel_rfl) (by kernel_rfl) (fun _ _ _ h => h) (Or.inl ⟨by rfl, ?_⟩) hHeld ?_
            rotate_left
            · intro W' hSw; (try dsimp only at hSw); go_simp; try (with_reducible rfl)
            (try simp only [Act.put, List.getElem_toArray, List.getElem_cons_zero, List.getElem_cons_succ, List.setIfInBounds_toArray, List.set_cons_zero, List.set_cons_succ])
            refine wpAnyH_take (i := 2) (v := ?_) rfl (by kernel_rfl) (by kernel_rfl) (by kernel_rfl) (fun _ _ _ h => h) (Or.inl ⟨by rfl, ?_⟩) hHeld ?_
            rotate_left
            · intro W' hSw; (try dsimp only at hSw); go_simp; try (with_reducible rfl)
            (try simp only [Act.put, List.getElem_toArray, List.getElem_cons_zero, List.getElem_cons_succ, List.setIfInBounds_toArray, List.set_cons_zero, List.set_cons_succ])
            refine wpAnyH_take (i := 3) (v := ?_) rfl (by kernel_rfl) (by kernel_rfl) (by kernel_rfl) (fun _ _ _ h => h) (Or.inl ⟨by rfl, ?_⟩) hHeld ?_
            rotate_left
            · intro W' hSw; (try dsimp only at hSw); go_simp; try (with_reducible rfl)
            (try simp only [Act.put, List.getElem_toArray, List.getElem_cons_zero, List.getElem_cons_succ, List.setIfInBounds_toArray, List.set_cons_zero, List.set_cons_succ])
            refine wpAnyH_take (i := 4) (v := ?_) rfl (by kernel_rfl) (by kernel_rfl) (by kernel_rfl) (fun _ _ _ h => h) (Or.inl ⟨by rfl, ?_⟩) hHeld ?_
            rotate_left
            · intro W' hSw; (try dsimp only at hSw); go_simp; try (with_reducible rfl)
            (try simp only [Act.put, List.getElem_toArray, List.getElem_cons_zero, List.getElem_cons_succ, List.setIfInBounds_toArray, List.set_cons_zero, List.set_cons_succ])
            refine wpAnyH_take (i := 5) (v := ?_) rfl (by kernel_rfl) (by kernel_rfl) (by kernel_rfl) (fun _ _ _ h => h) (Or.inl ⟨by rfl, ?_⟩) hHeld ?_
            rotate_left
            · intro W' hSw; (try dsimp only at hSw); go_simp; try (with_reducible rfl)
            (try simp only [Act.put, List.getElem_toArray, List.getElem_cons_zero, List.getElem_cons_succ, List.setIfInBounds_toArray, List.set_cons_zero, List.set_cons_succ])
            refine wpAnyH_take (i := 6) (v := ?_) rfl (by kernel_rfl) (by kernel_rfl) (by kernel_rfl) (fun _ _ _ h => h) (Or.inl ⟨by rfl, ?_⟩) hHeld ?_
            rotate_left
            · intro W' hSw; (try dsimp only at hSw); go_simp; try (with_reducible rfl)
            (try simp only [Act.put, List.getElem_toArray, List.getElem_cons_zero, List.getElem_cons_succ, List.setIfInBounds_toArray, List.set_cons_zero, List.set_cons_succ])
            refine wpAnyH_take (i := 7) (v := ?_) rfl (by kernel_rfl) (by kernel_rfl) (by kernel_rfl) (fun _ _ _ h => h) (Or.inl ⟨by rfl, ?_⟩) hHeld ?_
            rotate_left
            · intro W' hSw; (try dsimp only at hSw); go_simp; try (with_reducible rfl)
            (try simp only [Act.put, List.getElem_toArray, List.getElem_cons_zero, List.getElem_cons_succ, List.setIfInBounds_toArray, List.set_cons_zero, List.set_cons_succ])
            refine wpAnyH_take (i := 8) (v := ?_) rfl (by kernel_rfl) (by kernel_rfl) (by kernel_rfl) (fun _ _ _ h => h) (Or.inl ⟨by rfl, ?_⟩) hHeld ?_
            rotate_left
            · intro W' hSw; (try dsimp only at hSw); go_simp; try (with_reducible rfl)
            (try simp only [Act.put, List.getElem_toArray, List.getElem_cons_zero, List.getElem_cons_succ, List.setIfInBounds_toArray, List.set_cons_zero, List.set_cons_succ])
            refine wpAnyH_take (i := 9) (v := ?_) rfl (by kernel_rfl) (by kernel_rfl) (by kernel_rfl) (fun _ _ _ h => h) (Or.inl ⟨by rfl, ?_⟩) hHeld ?_
            rotate_left
            · intro W' hSw; (try dsimp only at hSw); go_simp; try (with_reducible rfl)
            (try simp only [Act.put, List.getElem_toArray, List.getElem_cons_zero, List.getElem_cons_succ, List.setIfInBounds_toArray, List.set_cons_zero, List.set_cons_succ])
            refine wpAnyH_ready (rs := [10]) (by kernel_rfl) (by simp) ?_
            refine AllReadyH.cons rfl (fun K hK => ?_) AllReadyH.nil
            go_simp
            refine Calls.mono (HC.out _ hHeld.2.2.2.2.2.2.2.2.2.2.2.2.2.2) ?_
            rintro r u1 ⟨rfl, hb2'⟩
            refine hK.out _ _ (HW.out _ (bthen hHeld.2.2.2.2.2.2.2.2.2.2.2.2.2.2 hb2')) (fun hHeld2 => ?_)
            clear hK
            (try simp only [Act.put, List.getElem_toArray, List.getElem_cons_zero, List.getElem_cons_succ, List.setIfInBounds_toArray, List.set_cons_zero, List.set_cons_succ])
            refine wpAnyH_take (i := 11) (v := ?_) rfl (by kernel_rfl) (by kernel_rfl) (by kernel_rfl) (fun _ _ _ h => h) (Or.inl ⟨by rfl, ?_⟩) hHeld2 ?_
            rotate_left
            · intro W' hSw; (try dsimp only at hSw); go_simp; try (with_reducible rfl)
            (try simp only [Act.put, List.getElem_toArray, List.getElem_cons_zero, List.getElem_cons_succ, List.setIfInBounds_toArray, List.set_cons_zero, List.set_cons_succ])
            refine wpAnyH_done (by kernel_rfl) ?_ _
            go_wp2_with fail
            go_meet
            exact ⟨rfl, hHeld2.2.2.2.2.2.2.2.2.2.2.2.2.2.2⟩
          case rest =>
            obtain ⟨rfl, hb3⟩ := hcut
            have HX3 := Lib.hid ((hb3.block _ (Array.getElem?_eq_some_iff.1 HXX.out).1).trans HXX.out)
            have HY3 := Lib.hid ((hb3.block _ (Array.getElem?_eq_some_iff.1 HYY.out).1).trans HYY.out)
            have HB3 := Lib.hid (bthen HBB.out hb3)
            clear hb3
            cases X with
            | false =>
              have HV := Lib.hid (HV0.out rfl)
              go_wp2_with fail
              go_ret
              exact ⟨by rw [HV.out]; rfl, HB3.out⟩
            | true =>
              go_wp2_with fail
              go_roundw
              case rel => exact ⟨i + 1, HLT.out, by go_num, HNX.out, HX3.out, HY3.out, HB3.out⟩
              case measure => have := HLT.out; simp [intOf]; omega
        · have hd : decide ((i : Int) < (n : Int)) = false := by simp; omega
          have HL := Lib.hid (show listB sameI xs ys = true by
            have h := HT.out
            exact zip_all (n := n) (by have := HN.out; omega) (by have := HN'.out; omega) (by rwa [show i = n by omega] at h))
          have HV := Lib.hid (show V = true by rw [HE.out, HL.out]; rfl)
          go_wp2_with fail
          go_ret
          exact ⟨by rw [HV.out]; rfl, HBB.out⟩
set_option maxRecDepth 100000 in
set_option maxHeartbeats 8000000 in
theorem refSameFunc_any (s s' : ByteArray) (b p b' p' : Int) (xs ys : List Bk) (A A' : Option Addr) (n c n' c' : Nat) (w : World) (hr : xs.length = n) (hr' : ys.length = n') (hr9 : n ≤ 9223372036854775807) (_hr9' : n' ≤ 9223372036854775807) (hoi : ∀ x ∈ xs, BkOk x) (hoi' : ∀ x ∈ ys, BkOk x) (hI : Blocks w (.slice A n c) xs) (hI' : Blocks w (.slice A' n' c') ys) :
    Calls Try.prog 49 #[.agg #[.string s, .int .i64 b, .int .i64 p, .slice A n c], .agg #[.string s', .int .i64 b', .int .i64 p', .slice A' n' c']] w fun E w' => E = .returned (.bool (sameF ⟨s, b, p, xs⟩ ⟨s', b', p', ys⟩)) ∧ Below w.heap.size w w' := by
  have HN := Lib.hid (show xs.length ≤ n ∧ n ≤ xs.length by omega)
  have HN' := Lib.hid (show ys.length ≤ n' ∧ n' ≤ ys.length by omega)
  have HS := Lib.hid hI
  have HS' := Lib.hid hI'
  have HOK := Lib.hid hoi
  have HOK' := Lib.hid hoi'
  have n1 : (n : Int) ≤ 9223372036854775807 := by omega
  clear hI hI' hr hr' hr9 hoi hoi'
  obtain ⟨V, hV⟩ : ∃ V, sameF ⟨s, b, p, xs⟩ ⟨s', b', p', ys⟩ = V := ⟨_, rfl⟩
  have HE := Lib.hid (show V = ((s == s') && (b == b') && (p == p') && listB sameB xs ys) from hV.symm)
  rw [hV]
  clear hV
  go_enter Try.func49, Try.ntmps49
  go_upto_region 1 with fail
  have HX := Lib.hid (show ((w.alloc (.cells #[.string s, .int .i64 b, .int .i64 p, .slice A n c] 50)).alloc (.cells #[.string s', .int .i64 b', .int .i64 p', .slice A' n' c'] 50)).heap[w.heap.size]? = some (.cells #[.string s, .int .i64 b, .int .i64 p, .slice A n c] 50 (0, 0)) from ((balloc (Below.refl _ _) (.cells #[.string s', .int .i64 b', .int .i64 p', .slice A' n' c'] 50)).block w.heap.size (Array.getElem?_eq_some_iff.1 (heap_alloc_new w (.cells #[.string s, .int .i64 b, .int .i64 p, .slice A n c] 50))).1).trans (heap_alloc_new w (.cells #[.string s, .int .i64 b, .int .i64 p, .slice A n c] 50)))
  have HY := Lib.hid (show ((w.alloc (.cells #[.string s, .int .i64 b, .int .i64 p, .slice A n c] 50)).alloc (.cells #[.string s', .int .i64 b', .int .i64 p', .slice A' n' c'] 50)).heap[w.heap.size + 1]? = some (.cells #[.string s', .int .i64 b', .int .i64 p', .slice A' n' c'] 50 (0, 0)) from by
    have e := heap_alloc_new (w.alloc (.cells #[.string s, .int .i64 b, .int .i64 p, .slice A n c] 50)) (.cells #[.string s', .int .i64 b', .int .i64 p', .slice A' n' c'] 50)
    rwa [World.size_alloc] at e)
  have HB := Lib.hid (boxes2 w #[.string s, .int .i64 b, .int .i64 p, .slice A n c] #[.string s', .int .i64 b', .int .i64 p', .slice A' n' c'] 50)
  generalize (w.alloc (.cells #[.string s, .int .i64 b, .int .i64 p, .slice A n c] 50)).alloc (.cells #[.string s', .int .i64 b', .int .i64 p', .slice A' n' c'] 50) = W0 at *
  have c0 := Lib.cell_of_heap HX.out 0
  have c1 := Lib.cell_of_heap HX.out 1
  have c2 := Lib.cell_of_heap HX.out 2
  have c3 := Lib.cell_of_heap HX.out 3
  simp only [List.getElem?_toArray, List.getElem?_cons_zero, List.getElem?_cons_succ] at c0 c1 c2 c3
  have d0 := Lib.cell_of_heap HY.out 0
  have d1 := Lib.cell_of_heap HY.out 1
  have d2 := Lib.cell_of_heap HY.out 2
  have d3 := Lib.cell_of_heap HY.out 3
  simp only [List.getElem?_toArray, List.getElem?_cons_zero, List.getElem?_cons_succ] at d0 d1 d2 d3
  by_cases h0 : s = s'
  case neg =>
    have n0 : (s == s') = false := by cases h : s == s' with | false => rfl | true => exact absurd ((jba_beq _ _).1 h) h0
    have m0 : (s.toList == s'.toList) = false := by rw [← beq_toListBytes]; exact n0
    have HV := Lib.hid (show V = false by rw [HE.out, n0]; simp)
    go_wp2_with fail
    go_ret
    exact ⟨by rw [HV.out]; rfl, HB.out⟩
  subst h0
  rw [jba_refl] at HE
  by_cases h1 : b = b'
  case neg =>
    have n1 : (b == b') = false := by simpa using h1
    have HV := Lib.hid (show V = false by rw [HE.out, n1]; simp)
    go_wp2_with fail
    go_ret
    exact ⟨by rw [HV.out]; rfl, HB.out⟩
  subst h1
  rw [show (b == b) = true by simp] at HE
  by_cases h2 : p = p'
  case neg =>
    have n2 : (p == p') = false := by simpa using h2
    have HV := Lib.hid (show V = false by rw [HE.out, n2]; simp)
    go_wp2_with fail
    go_ret
    exact ⟨by rw [HV.out]; rfl, HB.out⟩
  subst h2
  rw [show (p == p) = true by simp] at HE
  by_cases hl : n = n'
  case neg =>
    have nl : ((n : Int) == (n' : Int)) = false := by simp; omega
    have HV := Lib.hid (show V = false by rw [HE.out, listB_len (by have := HN.out; have := HN'.out; omega)]; simp)
    go_wp2_with fail
    go_ret
    exact ⟨by rw [HV.out]; rfl, HB.out⟩
  subst hl
  go_wp2_with fail
  clear c0 c1 c2 c3 d0 d1 d2 d3
  go_loopw [5] (fun iv wr => ∃ i : Nat, i ≤ n ∧ iv = .int .i64 i ∧ ((xs.take i).zip (ys.take i)).all (fun x => sameB x.1 x.2) = true ∧ wr.heap[w.heap.size]? = some (.cells #[.string s, .int .i64 b, .int .i64 p, .slice A n c] 50 (0, 0)) ∧ wr.heap[w.heap.size + 1]? = some (.cells #[.string s, .int .i64 b, .int .i64 p, .slice A' n c'] 50 (0, 0)) ∧ Below w.heap.size w wr) (fun iv _ => n - (intOf iv).toNat)
  case atStart => exact ⟨0, Nat.zero_le _, rfl, by simp, HX.out, HY.out, HB.out⟩
  case round =>
    obtain ⟨i, hi, rfl, hs, hxx, hyy, hb⟩ := hrel
    have HT := Lib.hid hs
    have HXX := Lib.hid hxx
    have HYY := Lib.hid hyy
    have HBB := Lib.hid hb
    have c3 := Lib.cell_of_heap hxx 3
    simp only [List.getElem?_toArray, List.getElem?_cons_zero, List.getElem?_cons_succ] at c3
    have d3 := Lib.cell_of_heap hyy 3
    simp only [List.getElem?_toArray, List.getElem?_cons_zero, List.getElem?_cons_succ] at d3
    clear hs hxx hyy
    by_cases hlt : i < n
    · have hm : i < xs.length := by have := HN.out; omega
      have hk : i < ys.length := by have := HN'.out; omega
      obtain ⟨b1, off, hA, hbl, e0⟩ := RowOf.at_ (HS.out.next hb) hm
      obtain ⟨b2, off2, hA2, hbl2, e2⟩ := RowOf.at_ (HS'.out.next hb) hk
      subst hA hA2
      have HNX := Lib.hid (zip_take hm hk HT.out)
      have HNO := Lib.hid (fun h => zip_no (p := sameB) hm hk h)
      have hox := HOK.out _ (List.getElem_mem hm)
      have hoy := HOK'.out _ (List.getElem_mem hk)
      obtain ⟨x, hx⟩ : ∃ x, xs[i] = x := ⟨_, rfl⟩
      obtain ⟨y, hy⟩ : ∃ y, ys[i] = y := ⟨_, rfl⟩
      rw [hx] at e0 HNX HNO hox
      rw [hy] at e2 HNX HNO hoy
      obtain ⟨g0, ⟨A1, z1, g1, hi1⟩, g2, g3, g4, ⟨A5, z5, g5, hi5⟩, g6, A7, z7, g7, hi7⟩ := e0
      obtain ⟨k0, ⟨B1, v1, k1, hj1⟩, k2, k3, k4, ⟨B5, v5, k5, hj5⟩, k6, B7, v7, k7, hj7⟩ := e2
      have HC := Lib.hid (fun (U : World) (hu : Below wr.heap.size wr U) => refSameBlock_any x.p x.e.k x.e.a x.e.t x.e.e y.p y.e.k y.e.a y.e.t y.e.e x.i y.i x.e.l x.e.m y.e.l y.e.m A5 A7 A1 B5 B7 B1 _ z5 _ z7 _ z1 _ v5 _ v7 _ v1 U rfl rfl hox.1 hoy.1 (fun i hi => (hox.2.2.2 i hi).2) (fun i hi => (hoy.2.2.2 i hi).2) hox.2.1 hox.2.2.1 hoy.2.1 hoy.2.2.1 (hi1.next hu) (hj1.next hu) (hi5.next hu) (hj5.next hu) (hi7.next hu) (hj7.next hu))
      rw [show sameB ⟨x.p, x.i, ⟨x.e.k, x.e.a, x.e.t, x.e.l, x.e.e, x.e.m⟩⟩ ⟨y.p, y.i, ⟨y.e.k, y.e.a, y.e.t, y.e.l, y.e.e, y.e.m⟩⟩ = sameB x y from rfl] at HC
      obtain ⟨x0, hx0⟩ : ∃ z, x.p = z := ⟨_, rfl⟩
      obtain ⟨x1, hx1⟩ : ∃ z, x.i.length = z := ⟨_, rfl⟩
      obtain ⟨x2, hx2⟩ : ∃ z, x.e.k = z := ⟨_, rfl⟩
      obtain ⟨x3, hx3⟩ : ∃ z, x.e.a = z := ⟨_, rfl⟩
      obtain ⟨x4, hx4⟩ : ∃ z, x.e.t = z := ⟨_, rfl⟩
      obtain ⟨x5, hx5⟩ : ∃ z, x.e.l.length = z := ⟨_, rfl⟩
      obtain ⟨x6, hx6⟩ : ∃ z, x.e.e = z := ⟨_, rfl⟩
      obtain ⟨x7, hx7⟩ : ∃ z, x.e.m.length = z := ⟨_, rfl⟩
      obtain ⟨y0, hy0⟩ : ∃ z, y.p = z := ⟨_, rfl⟩
      obtain ⟨y1, hy1⟩ : ∃ z, y.i.length = z := ⟨_, rfl⟩
      obtain ⟨y2, hy2⟩ : ∃ z, y.e.k = z := ⟨_, rfl⟩
      obtain ⟨y3, hy3⟩ : ∃ z, y.e.a = z := ⟨_, rfl⟩
      obtain ⟨y4, hy4⟩ : ∃ z, y.e.t = z := ⟨_, rfl⟩
      obtain ⟨y5, hy5⟩ : ∃ z, y.e.l.length = z := ⟨_, rfl⟩
      obtain ⟨y6, hy6⟩ : ∃ z, y.e.e = z := ⟨_, rfl⟩
      obtain ⟨y7, hy7⟩ : ∃ z, y.e.m.length = z := ⟨_, rfl⟩
      rw [hx0, hx1, hx2, hx3, hx4, hx5, hx6, hx7, hy0, hy1, hy2, hy3, hy4, hy5, hy6, hy7] at HC
      rw [hx0] at g0
      rw [hy0] at k0
      rw [hx1] at g1
      rw [hy1] at k1
      rw [hx2] at g2
      rw [hy2] at k2
      rw [hx3] at g3
      rw [hy3] at k3
      rw [hx4] at g4
      rw [hy4] at k4
      rw [hx5] at g5
      rw [hy5] at k5
      rw [hx6] at g6
      rw [hy6] at k6
      rw [hx7] at g7
      rw [hy7] at k7
      clear hi1 hi5 hi7 hj1 hj5 hj7 hx0 hx1 hx2 hx3 hx4 hx5 hx6 hx7 hy0 hy1 hy2 hy3 hy4 hy5 hy6 hy7
      obtain ⟨X, hX⟩ : ∃ X, sameB x y = X := ⟨_, rfl⟩
      rw [hX] at HC HNX HNO
      have HV0 := Lib.hid (show X = false → V = false from fun h => by rw [HE.out, HNO.out h]; rfl)
      have hk0 : (0 : Int) ≤ (i : Int) := Int.natCast_nonneg _
      have hk1 : (i : Int) < (n : Int) := by omega
      have HLT := Lib.hid hlt
      have HW := Lib.hid (fun (U : World) (hU : Below wr.heap.size wr U) => (show U.cell? ⟨w.heap.size, 3, none⟩ = some (.slice (some ⟨b1, off, none⟩) n c) ∧ U.cell? ⟨w.heap.size + 1, 3, none⟩ = some (.slice (some ⟨b2, off2, none⟩) n c') ∧ U.cell? ⟨b1, off + i * 8, none⟩ = some (.int .i64 x0) ∧ U.cell? ⟨b1, off + i * 8 + 1, none⟩ = some (.slice A1 x1 z1) ∧ U.cell? ⟨b1, off + i * 8 + 2, none⟩ = some (.int .i64 x2) ∧ U.cell? ⟨b1, off + i * 8 + 3, none⟩ = some (.int .i64 x3) ∧ U.cell? ⟨b1, off + i * 8 + 4, none⟩ = some (.int .i64 x4) ∧ U.cell? ⟨b1, off + i * 8 + 5, none⟩ = some (.slice A5 x5 z5) ∧ U.cell? ⟨b1, off + i * 8 + 6, none⟩ = some (.int .i64 x6) ∧ U.cell? ⟨b1, off + i * 8 + 7, none⟩ = some (.slice A7 x7 z7) ∧ U.cell? ⟨b2, off2 + i * 8, none⟩ = some (.int .i64 y0) ∧ U.cell? ⟨b2, off2 + i * 8 + 1, none⟩ = some (.slice B1 y1 v1) ∧ U.cell? ⟨b2, off2 + i * 8 + 2, none⟩ = some (.int .i64 y2) ∧ U.cell? ⟨b2, off2 + i * 8 + 3, none⟩ = some (.int .i64 y3) ∧ U.cell? ⟨b2, off2 + i * 8 + 4, none⟩ = some (.int .i64 y4) ∧ U.cell? ⟨b2, off2 + i * 8 + 5, none⟩ = some (.slice B5 y5 v5) ∧ U.cell? ⟨b2, off2 + i * 8 + 6, none⟩ = some (.int .i64 y6) ∧ U.cell? ⟨b2, off2 + i * 8 + 7, none⟩ = some (.slice B7 y7 v7) ∧ Below wr.heap.size wr U from by
        have hxu := (hU.block _ (Array.getElem?_eq_some_iff.1 HXX.out).1).trans HXX.out
        have hyu := (hU.block _ (Array.getElem?_eq_some_iff.1 HYY.out).1).trans HYY.out
        exact ⟨Lib.cell_of_heap hxu 3, Lib.cell_of_heap hyu 3, (cellNext hbl hU _).trans g0, (cellNext hbl hU _).trans g1, (cellNext hbl hU _).trans g2, (cellNext hbl hU _).trans g3, (cellNext hbl hU _).trans g4, (cellNext hbl hU _).trans g5, (cellNext hbl hU _).trans g6, (cellNext hbl hU _).trans g7, (cellNext hbl2 hU _).trans k0, (cellNext hbl2 hU _).trans k1, (cellNext hbl2 hU _).trans k2, (cellNext hbl2 hU _).trans k3, (cellNext hbl2 hU _).trans k4, (cellNext hbl2 hU _).trans k5, (cellNext hbl2 hU _).trans k6, (cellNext hbl2 hU _).trans k7, hU⟩))
      clear hx hy hm hk hlt hX hox hoy HNO hb hbl hbl2 g0 k0 g1 k1 g2 k2 g3 k3 g4 k4 g5 k5 g6 k6 g7 k7
      go_upto_region 6 with fail
      clear c3 d3
      go_cut [6] from 42 to 53 (fun v7 wx => v7 = .bool X ∧ Below wr.heap.size wr wx)
      case first =>
        have hd := HW.out _ (Below.refl _ wr).drew
        refine wp_region_held_drew (S := (fun U => U.cell? ⟨w.heap.size, 3, none⟩ = some (.slice (some ⟨b1, off, none⟩) n c) ∧ U.cell? ⟨w.heap.size + 1, 3, none⟩ = some (.slice (some ⟨b2, off2, none⟩) n c') ∧ U.cell? ⟨b1, off + i * 8, none⟩ = some (.int .i64 x0) ∧ U.cell? ⟨b1, off + i * 8 + 1, none⟩ = some (.slice A1 x1 z1) ∧ U.cell? ⟨b1, off + i * 8 + 2, none⟩ = some (.int .i64 x2) ∧ U.cell? ⟨b1, off + i * 8 + 3, none⟩ = some (.int .i64 x3) ∧ U.cell? ⟨b1, off + i * 8 + 4, none⟩ = some (.int .i64 x4) ∧ U.cell? ⟨b1, off + i * 8 + 5, none⟩ = some (.slice A5 x5 z5) ∧ U.cell? ⟨b1, off + i * 8 + 6, none⟩ = some (.int .i64 x6) ∧ U.cell? ⟨b1, off + i * 8 + 7, none⟩ = some (.slice A7 x7 z7) ∧ U.cell? ⟨b2, off2 + i * 8, none⟩ = some (.int .i64 y0) ∧ U.cell? ⟨b2, off2 + i * 8 + 1, none⟩ = some (.slice B1 y1 v1) ∧ U.cell? ⟨b2, off2 + i * 8 + 2, none⟩ = some (.int .i64 y2) ∧ U.cell? ⟨b2, off2 + i * 8 + 3, none⟩ = some (.int .i64 y3) ∧ U.cell? ⟨b2, off2 + i * 8 + 4, none⟩ = some (.int .i64 y4) ∧ U.cell? ⟨b2, off2 + i * 8 + 5, none⟩ = some (.slice B5 y5 v5) ∧ U.cell? ⟨b2, off2 + i * 8 + 6, none⟩ = some (.int .i64 y6) ∧ U.cell? ⟨b2, off2 + i * 8 + 7, none⟩ = some (.slice B7 y7 v7) ∧ Below wr.heap.size wr U)) (by kernel_rfl) hd (fun hHeld => ?_)
        refine wpAnyH_take (i := 0) (v := ?_) rfl (by kernel_rfl) (by kernel_rfl) (by kernel_rfl) (fun _ _ _ h => h) (Or.inl ⟨by rfl, ?_⟩) hHeld ?_
        rotate_left
        · intro W' hSw; (try dsimp only at hSw); go_simp; try (with_reducible rfl)
        (try simp only [Act.put, List.getElem_toArray, List.getElem_cons_zero, List.setIfInBounds_toArray, List.set_cons_zero, List.set_cons_succ])
        refine wpAnyH_take (i := 1) (v := ?_) rfl (by kernel_rfl) (by kernel_rfl) (by kernel_rfl) (fun _ _ _ h => h) (Or.inl ⟨by rfl, ?_⟩) hHeld ?_
        rotate_left
        · intro W' hSw; (try dsimp only at hSw); go_simp; try (with_reducible rfl)
        (try simp only [Act.put, List.getElem_toArray, List.getElem_cons_zero, List.getElem_cons_succ, List.setIfInBounds_toArray, List.set_cons_zero, List.set_cons_succ])
        refine wpAnyH_take (i := 2) (v := ?_) rfl (by kernel_rfl) (by kernel_rfl) (by kernel_rfl) (fun _ _ _ h => h) (Or.inl ⟨by rfl, ?_⟩) hHeld ?_
        rotate_left
        · intro W' hSw; (try dsimp only at hSw); go_simp; try (with_reducible rfl)
        (try simp only [Act.put, List.getElem_toArray, List.getElem_cons_zero, List.getElem_cons_succ, List.setIfInBounds_toArray, List.set_cons_zero, List.set_cons_succ])
        refine wpAnyH_take (i := 3) (v := ?_) rfl (by kernel_rfl) (by kernel_rfl) (by kernel_rfl) (fun _ _ _ h => h) (Or.inl ⟨by rfl, ?_⟩) hHeld ?_
        rotate_left
        · intro W' hSw; (try dsimp only at hSw); go_simp; try (with_reducible rfl)
        (try simp only [Act.put, List.getElem_toArray, List.getElem_cons_zero, List.getElem_cons_succ, List.setIfInBounds_toArray, List.set_cons_zero, List.set_cons_succ])
        refine wpAnyH_take (i := 4) (v := ?_) rfl (by kernel_rfl) (by kernel_rfl) (by kernel_rfl) (fun _ _ _ h => h) (Or.inl ⟨by rfl, ?_⟩) hHeld ?_
        rotate_left
        · intro W' hSw; (try dsimp only at hSw); go_simp; try (with_reducible rfl)
        (try simp only [Act.put, List.getElem_toArray, List.getElem_cons_zero, List.getElem_cons_succ, List.setIfInBounds_toArray, List.set_cons_zero, List.set_cons_succ])
        refine wpAnyH_take (i := 5) (v := ?_) rfl (by kernel_rfl) (by kernel_rfl) (by kernel_rfl) (fun _ _ _ h => h) (Or.inl ⟨by rfl, ?_⟩) hHeld ?_
        rotate_left
        · intro W' hSw; (try dsimp only at hSw); go_simp; try (with_reducible rfl)
        (try simp only [Act.put, List.getElem_toArray, List.getElem_cons_zero, List.getElem_cons_succ, List.setIfInBounds_toArray, List.set_cons_zero, List.set_cons_succ])
        refine wpAnyH_take (i := 6) (v := ?_) rfl (by kernel_rfl) (by kernel_rfl) (by kernel_rfl) (fun _ _ _ h => h) (Or.inl ⟨by rfl, ?_⟩) hHeld ?_
        rotate_left
        · intro W' hSw; (try dsimp only at hSw); go_simp; try (with_reducible rfl)
        (try simp only [Act.put, List.getElem_toArray, List.getElem_cons_zero, List.getElem_cons_succ, List.setIfInBounds_toArray, List.set_cons_zero, List.set_cons_succ])
        refine wpAnyH_take (i := 7) (v := ?_) rfl (by kernel_rfl) (by kernel_rfl) (by kernel_rfl) (fun _ _ _ h => h) (Or.inl ⟨by rfl, ?_⟩) hHeld ?_
        rotate_left
        · intro W' hSw; (try dsimp only at hSw); go_simp; try (with_reducible rfl)
        (try simp only [Act.put, List.getElem_toArray, List.getElem_cons_zero, List.getElem_cons_succ, List.setIfInBounds_toArray, List.set_cons_zero, List.set_cons_succ])
        refine wpAnyH_take (i := 8) (v := ?_) rfl (by kernel_rfl) (by kernel_rfl) (by kernel_rfl) (fun _ _ _ h => h) (Or.inl ⟨by rfl, ?_⟩) hHeld ?_
        rotate_left
        · intro W' hSw; (try dsimp only at hSw); go_simp; try (with_reducible rfl)
        (try simp only [Act.put, List.getElem_toArray, List.getElem_cons_zero, List.getElem_cons_succ, List.setIfInBounds_toArray, List.set_cons_zero, List.set_cons_succ])
        refine wpAnyH_take (i := 9) (v := ?_) rfl (by kernel_rfl) (by kernel_rfl) (by kernel_rfl) (fun _ _ _ h => h) (Or.inl ⟨by rfl, ?_⟩) hHeld ?_
        rotate_left
        · intro W' hSw; (try dsimp only at hSw); go_simp; try (with_reducible rfl)
        (try simp only [Act.put, List.getElem_toArray, List.getElem_cons_zero, List.getElem_cons_succ, List.setIfInBounds_toArray, List.set_cons_zero, List.set_cons_succ])
        refine wpAnyH_ready (rs := [10]) (by kernel_rfl) (by simp) ?_
        refine AllReadyH.cons rfl (fun K hK => ?_) AllReadyH.nil
        go_simp
        refine Calls.mono (HC.out _ hHeld.2.2.2.2.2.2.2.2.2.2.2.2.2.2.2.2.2.2) ?_
        rintro r u1 ⟨rfl, hb2'⟩
        refine hK.out _ _ (HW.out _ (bthen hHeld.2.2.2.2.2.2.2.2.2.2.2.2.2.2.2.2.2.2 hb2')) (fun hHeld2 => ?_)
        clear hK
        (try simp only [Act.put, List.getElem_toArray, List.getElem_cons_zero, List.getElem_cons_succ, List.setIfInBounds_toArray, List.set_cons_zero, List.set_cons_succ])
        refine wpAnyH_take (i := 11) (v := ?_) rfl (by kernel_rfl) (by kernel_rfl) (by kernel_rfl) (fun _ _ _ h => h) (Or.inl ⟨by rfl, ?_⟩) hHeld2 ?_
        rotate_left
        · intro W' hSw; (try dsimp only at hSw); go_simp; try (with_reducible rfl)
        (try simp only [Act.put, List.getElem_toArray, List.getElem_cons_zero, List.getElem_cons_succ, List.setIfInBounds_toArray, List.set_cons_zero, List.set_cons_succ])
        refine wpAnyH_done (by kernel_rfl) ?_ _
        go_wp2_with fail
        go_meet
        exact ⟨rfl, hHeld2.2.2.2.2.2.2.2.2.2.2.2.2.2.2.2.2.2.2⟩
      case rest =>
        obtain ⟨rfl, hb3⟩ := hcut
        have HX3 := Lib.hid ((hb3.block _ (Array.getElem?_eq_some_iff.1 HXX.out).1).trans HXX.out)
        have HY3 := Lib.hid ((hb3.block _ (Array.getElem?_eq_some_iff.1 HYY.out).1).trans HYY.out)
        have HB3 := Lib.hid (bthen HBB.out hb3)
        clear hb3
        cases X with
        | false =>
          have HV := Lib.hid (HV0.out rfl)
          go_wp2_with fail
          go_ret
          exact ⟨by rw [HV.out]; rfl, HB3.out⟩
        | true =>
          go_wp2_with fail
          go_roundw
          case rel => exact ⟨i + 1, HLT.out, by go_num, HNX.out, HX3.out, HY3.out, HB3.out⟩
          case measure => have := HLT.out; simp [intOf]; omega
    · have hd : decide ((i : Int) < (n : Int)) = false := by simp; omega
      have HL := Lib.hid (show listB sameB xs ys = true by
        have h := HT.out
        exact zip_all (n := n) (by have := HN.out; omega) (by have := HN'.out; omega) (by rwa [show i = n by omega] at h))
      have HV := Lib.hid (show V = true by rw [HE.out, HL.out]; rfl)
      go_wp2_with fail
      go_ret
      exact ⟨by rw [HV.out]; rfl, HBB.out⟩
end Go.Proofs.Ytoglmdadpchhoaa
