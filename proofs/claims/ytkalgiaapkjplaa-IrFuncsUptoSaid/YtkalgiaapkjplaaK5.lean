/- Package ir: what each name of a module names, unless one names two: a map that the call makes. -/
import Derived.Test.YtkalgiaapkjplaaK4
import Derived.Maps.Own
import Derived.Maps.OwnSet
import Derived.Maps.Views
import Derived.StringKeys
namespace Go.Proofs.Ytkalgiaapkjplaa
open Go.RowKit

def slit (s : ByteArray) : Lit := .string s.data.toList
theorem slit_inj {s t : ByteArray} (h : slit s = slit t) : s = t := by
  obtain ⟨s⟩ := s
  obtain ⟨t⟩ := t
  congr 1
  exact Array.toList_inj.1 (Lit.string.inj h)
theorem slit_key (s : ByteArray) : WideAt.IsKeyLit (slit s) := trivial
/-- what a name names -/
def thD (x : Bool × Int) : DataW Unit := .agg [.lit (.bool x.1), .lit (.int .i64 x.2)]
def thV (x : Bool × Int) : Value := .agg #[.bool x.1, .int .i64 x.2]
def thR : Value → Option (DataW Unit × List MemPlace)
  | .agg cs => match cs.toList with
    | [.bool b, .int .i64 p] => some (thD (b, p), [])
    | _ => none
  | _ => none
theorem thR_of (x : Bool × Int) : thR (thV x) = some (thD x, []) := rfl
theorem thR_inv {v : Value} {x : Bool × Int} {ps : List MemPlace} (h : thR v = some (thD x, ps)) : v = thV x := by
  unfold thR at h
  split at h
  · rename_i cs
    split at h
    · rename_i b p e
      simp only [Option.some.injEq, Prod.mk.injEq, thD, DataW.agg.injEq, List.cons.injEq, DataW.lit.injEq, Lit.int.injEq, Lit.bool.injEq, true_and, and_true] at h
      obtain ⟨⟨h1, h2⟩, -⟩ := h
      obtain ⟨xa, xp⟩ := x
      simp only at h1 h2
      subst h1; subst h2
      obtain ⟨cs⟩ := cs
      simp only at e
      subst e
      rfl
    · cases h
  · cases h
noncomputable def mapD (l : List (ByteArray × Bool × Int)) : DataW Unit := l.foldl (fun m x => m.put (slit x.1) (thD x.2)) (.map [])
theorem mapD_snoc (l : List (ByteArray × Bool × Int)) (x : ByteArray × Bool × Int) : mapD (l ++ [x]) = (mapD l).put (slit x.1) (thD x.2) := by simp [mapD]
theorem mapD_rev : ∀ (r : List (ByteArray × Bool × Int)), Maps.Tidy (mapD r.reverse) ∧ (∀ s, Maps.has (mapD r.reverse) (slit s) = true ↔ ∃ x ∈ r, x.1 = s) ∧ Maps.size (mapD r.reverse) ≤ r.length ∧ (Maps.size (mapD r.reverse) = r.length ↔ (r.map (·.1)).Nodup) ∧
    ((r.map (·.1)).Nodup → ∀ x ∈ r, ∀ z, (mapD r.reverse).atKey (slit x.1) z = thD x.2)
  | [] => ⟨Maps.tidy_empty, fun s => by simp [mapD, Maps.has_eq], Nat.le_refl _, by simp [mapD, Maps.size_eq], fun _ x hx => by simp at hx⟩
  | x :: r => by
    obtain ⟨h1, h2, h3, h4, h5⟩ := mapD_rev r
    rw [List.reverse_cons, mapD_snoc]
    have hz : Maps.size ((mapD r.reverse).put (slit x.1) (thD x.2)) = if Maps.has (mapD r.reverse) (slit x.1) then Maps.size (mapD r.reverse) else Maps.size (mapD r.reverse) + 1 := Maps.size_put h1 _
    refine ⟨h1.put (slit_key _) _, fun s => ?_, ?_, ?_, fun hn y hy z => ?_⟩
    · by_cases hs : x.1 = s
      · subst hs
        rw [Maps.has_put_same h1.isMap (slit_key _)]
        simp
      · rw [Maps.has_put_other (fun e => hs (slit_inj e).symm), h2]
        simp [hs]
    · rw [hz, List.length_cons]
      split <;> omega
    · rw [hz, List.length_cons, List.map_cons, List.nodup_cons]
      by_cases hh : Maps.has (mapD r.reverse) (slit x.1) = true
      · rw [if_pos hh]
        obtain ⟨y, hy, e⟩ := (h2 x.1).1 hh
        constructor
        · intro h; omega
        · intro h
          exact absurd (List.mem_map.2 ⟨y, hy, e⟩) h.1
      · rw [if_neg hh]
        have hx : x.1 ∉ r.map (·.1) := fun h => by
          obtain ⟨y, hy, e⟩ := List.mem_map.1 h
          exact hh ((h2 x.1).2 ⟨y, hy, e⟩)
        constructor
        · intro h
          exact ⟨hx, h4.1 (by omega)⟩
        · intro h
          have := h4.2 h.2
          omega
    · rw [List.map_cons, List.nodup_cons] at hn
      rcases List.mem_cons.1 hy with rfl | hy
      · exact Maps.atKey_put_same h1.isMap (slit_key _) _ _
      · rw [Maps.atKey_put_other, h5 hn.2 y hy]
        intro e
        exact hn.1 (by rw [← slit_inj e]; exact List.mem_map_of_mem hy)
theorem mapD_facts (l : List (ByteArray × Bool × Int)) : (∀ s, Maps.has (mapD l) (slit s) = true ↔ ∃ x ∈ l, x.1 = s) ∧ Maps.size (mapD l) ≤ l.length ∧ (Maps.size (mapD l) = l.length ↔ (l.map (·.1)).Nodup) ∧
    ((l.map (·.1)).Nodup → ∀ x ∈ l, ∀ z, (mapD l).atKey (slit x.1) z = thD x.2) := by
  obtain ⟨-, h2, h3, h4, h5⟩ := mapD_rev l.reverse
  rw [List.reverse_reverse] at h2 h3 h4 h5
  rw [List.length_reverse] at h3 h4
  have hn : (l.reverse.map (·.1)).Nodup ↔ (l.map (·.1)).Nodup := by rw [List.map_reverse]; exact (List.reverse_perm _).nodup_iff
  exact ⟨fun s => by rw [h2]; simp, h3, by rw [h4, hn], fun h x hx z => h5 (hn.2 h) x (by simpa using hx) z⟩
/-- the names of a module, each with what it names -/
def entF (f : Fn) : ByteArray × Bool × Int := (f.s, true, f.p)
def entG (g : Gl) : ByteArray × Bool × Int := (g.s, false, 0)
def entM (m : Md) : List (ByteArray × Bool × Int) := m.f.map entF ++ m.g.map entG
theorem entM_names (m : Md) : (entM m).map (·.1) = namesM m := by
  simp [entM, namesM, entF, entG, Function.comp_def]
theorem skeyed : Maps.Keyed Try.prog 9 := Maps.string_keyed Try.underlying9
theorem skey_of {s : ByteArray} (h : s.size < 9223372036854775808) : keyOf Try.prog 9 (.string s) = some (slit s) := WideMaps.keyOf_string_mk Try.underlying9 (by unfold maxLen; omega)
/-- what named answers -/
def NamedPost (m : Md) (w : World) (e : Ending) (w' : World) : Prop :=
  Below w.heap.size w w' ∧ (((namesM m).Nodup ∧ ∃ b n, e = .returned (.tuple #[.map (some b), .int .i64 0]) ∧ w.heap.size ≤ b ∧ w'.ownsMap Try.prog 9 thR b n (mapD (entM m))) ∨ (¬ (namesM m).Nodup ∧ e = .returned (.tuple #[.map none, .int .i64 9])))
theorem below_turned {n b : Nat} {A B W : World} (h : Below n A B) (hg : B.grownBy W (some b)) (hb : n ≤ b) (hn : n ≤ B.heap.size) : Below n A W :=
  h.trans ⟨hg.os, hg.tape, hg.output, hg.size, fun k hk => hg.block k (Nat.lt_of_lt_of_le hk hn) (fun e => by cases e; omega)⟩
set_option maxRecDepth 100000 in
set_option maxHeartbeats 4000000 in
theorem named_any (m : Md) (F G : Option Addr) (nf cf ng cg : Nat) (w : World) (hok : MdOk m) (hnf : m.f.length = nf) (hng : m.g.length = ng) (h16 : nf ≤ 1000000) (g16 : ng ≤ 1000000) (hS : MdAt w (.slice F nf cf) (.slice G ng cg) m) :
    Calls Try.prog 54 #[.agg #[.slice F nf cf, .slice G ng cg]] w (NamedPost m w) := by
  have HS := Lib.hid hS
  have HOK := Lib.hid hok
  have HNF := Lib.hid (show m.f.length ≤ nf ∧ nf ≤ m.f.length by omega)
  have HNG := Lib.hid (show m.g.length ≤ ng ∧ ng ≤ m.g.length by omega)
  have f9 : (nf : Int) ≤ 1000000 := by omega
  have g9 : (ng : Int) ≤ 1000000 := by omega
  clear hS hok hnf hng h16 g16
  have hmm := @run_makeMap Try.prog
  go_enter Try.func54, Try.ntmps54
  go_wp2_with fail
  clear hmm
  have HIN := Lib.hid (((balloc (Below.refl _ _) (.map #[] 0)).block w.heap.size (by simp)).trans (heap_alloc_new w (.cells #[.slice F nf cf, .slice G ng cg] 33)))
  have HOM := Lib.hid (World.ownsMap_made (w.alloc (.cells #[.slice F nf cf, .slice G ng cg] 33)) Try.prog 9 thR)
  have HBW := Lib.hid (balloc (balloc (Below.refl _ w) (.cells #[.slice F nf cf, .slice G ng cg] 33)) (.map #[] 0))
  rw [World.size_alloc] at HOM
  generalize (w.alloc (.cells #[.slice F nf cf, .slice G ng cg] 33)).alloc (.map #[] 0) = W0 at *
  go_loopw [13] (fun iv wr => ∃ i : Nat, i ≤ nf ∧ iv = .int .i64 i ∧ wr.ownsMap Try.prog 9 thR (w.heap.size + 1) i (mapD ((m.f.take i).map entF)) ∧ wr.heap[w.heap.size]? = some (.cells #[.slice F nf cf, .slice G ng cg] 33 (0, 0)) ∧ Below w.heap.size w wr) (fun iv _ => nf - (intOf iv).toNat)
  case atStart => exact ⟨0, Nat.zero_le _, rfl, HOM.out, HIN.out, HBW.out⟩
  case round =>
    obtain ⟨i, hi, rfl, hm, hin, hb⟩ := hrel
    have HM := Lib.hid hm
    have HI := Lib.hid hin
    have HB := Lib.hid hb
    clear hm hin hb HIN HBW HOM
    by_cases hlt : i < nf
    · have hmf : i < m.f.length := by have := HNF.out; omega
      obtain ⟨b, off, hA, hbl, e0⟩ := RowOf.at_ HS.out.1 hmf
      subst hA
      obtain ⟨c0, c1, c2, A, cc, c3, -⟩ := FnAt.next _ _ _ _ _ hbl HB.out e0
      have HNX := Lib.hid (show (m.f.take (i + 1)).map entF = (m.f.take i).map entF ++ [(m.f[i].s, true, m.f[i].p)] by
        rw [List.take_succ_eq_append_getElem hmf, List.map_append]
        rfl)
      have HKY := Lib.hid (skey_of (HOK.out.1 _ (List.getElem_mem hmf)).1)
      obtain ⟨x0, h0⟩ : ∃ x, m.f[i].s = x := ⟨_, rfl⟩
      obtain ⟨x1, h1⟩ : ∃ x, m.f[i].b = x := ⟨_, rfl⟩
      obtain ⟨x2, h2⟩ : ∃ x, m.f[i].p = x := ⟨_, rfl⟩
      obtain ⟨x3, h3⟩ : ∃ x, m.f[i].l.length = x := ⟨_, rfl⟩
      rw [h0] at c0 HNX HKY
      rw [h1] at c1
      rw [h2] at c2 HNX
      rw [h3] at c3
      have hk0 : (0 : Int) ≤ (i : Int) := Int.natCast_nonneg _
      have hk1 : (i : Int) < (nf : Int) := by omega
      have HLT := Lib.hid hlt
      have HML := Lib.hid (show i < maxLen by unfold maxLen; omega)
      have HM1 := Lib.hid (HM.out.alloc (.cells #[.string x0, .int .i64 x1, .int .i64 x2, .slice A x3 cc] 24))
      have HB1 := Lib.hid (bthen HB.out (balloc (Below.refl _ wr) (.cells #[.string x0, .int .i64 x1, .int .i64 x2, .slice A x3 cc] 24)))
      have HI1 := Lib.hid (((balloc (Below.refl _ wr) (.cells #[.string x0, .int .i64 x1, .int .i64 x2, .slice A x3 cc] 24)).block _ (Array.getElem?_eq_some_iff.1 HI.out).1).trans HI.out)
      clear h0 h1 h2 h3 hmf hlt e0
      go_wp2_with (at_mapUpdate; refine wpList_mapUpdate_own _ rfl _ _ _ 87 rfl 9 126 skeyed Try.underlying87 _ (w.heap.size + 1) i _ rfl HM1.out HML.out _ _ _ rfl rfl HKY.out _ [] (thR_of (true, x2)) ?_; intro w3 hm3 hg3)
      have HM3 := Lib.hid (show w3.ownsMap Try.prog 9 thR (w.heap.size + 1) (i + 1) (mapD ((m.f.take (i + 1)).map entF)) by rw [HNX.out, mapD_snoc]; exact hm3)
      have HI3 := Lib.hid ((hg3.block _ (Array.getElem?_eq_some_iff.1 HI1.out).1 (by simp)).trans HI1.out)
      have HB3 := Lib.hid (below_turned HB1.out hg3 (Nat.le_succ _) HB1.out.size)
      clear hm3 hg3 c0 c1 c2 c3
      go_wp2_with fail
      go_roundw
      case rel => exact ⟨i + 1, HLT.out, by go_num, HM3.out, HI3.out, HB3.out⟩
      case measure => have := HLT.out; simp [intOf]; omega
    · have hd : decide ((i : Int) < (nf : Int)) = false := by simp; omega
      have HF := Lib.hid (show wr.ownsMap Try.prog 9 thR (w.heap.size + 1) (nf + 0) (mapD (m.f.map entF ++ (m.g.take 0).map entG)) by
        have h := HM.out
        rw [List.take_of_length_le (by have := HNF.out; omega)] at h
        simp only [List.take_zero, List.map_nil, List.append_nil]
        exact h.mono (by omega))
      have c1 := Lib.cell_of_heap HI.out 1
      simp only [List.getElem?_toArray, List.getElem?_cons_zero, List.getElem?_cons_succ] at c1
      go_wp2_with fail
      clear c1
      go_loopw [27] (fun iv wr => ∃ j : Nat, j ≤ ng ∧ iv = .int .i64 j ∧ wr.ownsMap Try.prog 9 thR (w.heap.size + 1) (nf + j) (mapD (m.f.map entF ++ (m.g.take j).map entG)) ∧ wr.heap[w.heap.size]? = some (.cells #[.slice F nf cf, .slice G ng cg] 33 (0, 0)) ∧ Below w.heap.size w wr) (fun iv _ => ng - (intOf iv).toNat)
      case atStart => exact ⟨0, Nat.zero_le _, rfl, HF.out, HI.out, HB.out⟩
      case round =>
        obtain ⟨j, hj, rfl, hm, hin, hb⟩ := hrel
        have HM2 := Lib.hid hm
        have HI2 := Lib.hid hin
        have HB2 := Lib.hid hb
        clear hm hin hb
        by_cases hlt2 : j < ng
        · have hmg : j < m.g.length := by have := HNG.out; omega
          obtain ⟨b, off, hA, hbl, e0⟩ := RowOf.at_ HS.out.2 hmg
          subst hA
          obtain ⟨c0, c1, c2, c3⟩ := GlAt.next _ _ _ _ _ hbl HB2.out e0
          have HNX := Lib.hid (show m.f.map entF ++ (m.g.take (j + 1)).map entG = (m.f.map entF ++ (m.g.take j).map entG) ++ [(m.g[j].s, false, 0)] by
            rw [List.take_succ_eq_append_getElem hmg, List.map_append, List.append_assoc]
            rfl)
          have HKY := Lib.hid (skey_of (HOK.out.2.1 _ (List.getElem_mem hmg)))
          obtain ⟨x0, h0⟩ : ∃ x, m.g[j].s = x := ⟨_, rfl⟩
          obtain ⟨x1, h1⟩ : ∃ x, m.g[j].b = x := ⟨_, rfl⟩
          obtain ⟨x2, h2⟩ : ∃ x, m.g[j].h = x := ⟨_, rfl⟩
          obtain ⟨x3, h3⟩ : ∃ x, m.g[j].i = x := ⟨_, rfl⟩
          rw [h0] at c0 HNX HKY
          rw [h1] at c1
          rw [h2] at c2
          rw [h3] at c3
          have hk0 : (0 : Int) ≤ (j : Int) := Int.natCast_nonneg _
          have hk1 : (j : Int) < (ng : Int) := by omega
          have HLT := Lib.hid hlt2
          have HML := Lib.hid (show nf + j < maxLen by unfold maxLen; omega)
          have HM1 := Lib.hid (HM2.out.alloc (.cells #[.string x0, .int .i64 x1, .bool x2, .int .u64 x3] 92))
          have HB1 := Lib.hid (bthen HB2.out (balloc (Below.refl _ wr) (.cells #[.string x0, .int .i64 x1, .bool x2, .int .u64 x3] 92)))
          have HI1 := Lib.hid (((balloc (Below.refl _ wr) (.cells #[.string x0, .int .i64 x1, .bool x2, .int .u64 x3] 92)).block _ (Array.getElem?_eq_some_iff.1 HI2.out).1).trans HI2.out)
          clear h0 h1 h2 h3 hmg hlt2 e0
          go_wp2_with (at_mapUpdate; refine wpList_mapUpdate_own _ rfl _ _ _ 87 rfl 9 126 skeyed Try.underlying87 _ (w.heap.size + 1) (nf + j) _ rfl HM1.out HML.out _ _ _ rfl rfl HKY.out _ [] (thR_of (false, 0)) ?_; intro w3 hm3 hg3)
          have HM3 := Lib.hid (show w3.ownsMap Try.prog 9 thR (w.heap.size + 1) (nf + (j + 1)) (mapD (m.f.map entF ++ (m.g.take (j + 1)).map entG)) by rw [HNX.out, mapD_snoc]; exact hm3)
          have HI3 := Lib.hid ((hg3.block _ (Array.getElem?_eq_some_iff.1 HI1.out).1 (by simp)).trans HI1.out)
          have HB3 := Lib.hid (below_turned HB1.out hg3 (Nat.le_succ _) HB1.out.size)
          clear hm3 hg3 c0 c1 c2 c3
          go_wp2_with fail
          go_roundw
          case rel => exact ⟨j + 1, HLT.out, by go_num, HM3.out, HI3.out, HB3.out⟩
          case measure => have := HLT.out; simp [intOf]; omega
        · have hd : decide ((j : Int) < (ng : Int)) = false := by simp; omega
          have HG := Lib.hid (show wr.ownsMap Try.prog 9 thR (w.heap.size + 1) (nf + j) (mapD (entM m)) by
            have h := HM2.out
            rwa [List.take_of_length_le (by have := HNG.out; omega)] at h)
          obtain ⟨-, z1, z2, -⟩ := mapD_facts (entM m)
          have el : (entM m).length = nf + ng := by
            have h1 := HNF.out
            have h2 := HNG.out
            simp only [entM, List.length_append, List.length_map]
            omega
          rw [el] at z1 z2
          rw [entM_names] at z2
          have c0 := Lib.cell_of_heap HI2.out 0
          have c1 := Lib.cell_of_heap HI2.out 1
          simp only [List.getElem?_toArray, List.getElem?_cons_zero, List.getElem?_cons_succ] at c0 c1
          obtain ⟨Z, hZ⟩ : ∃ z, Maps.size (mapD (entM m)) = z := ⟨_, rfl⟩
          have hlen : (Builtin.len_ #[87] 3 #[.map (some (w.heap.size + 1))]).run Try.prog wr = .ok (.int .i64 Z) wr := by
            rw [← hZ]
            exact HG.out.len Try.underlying87 _
          rw [hZ] at z1 z2
          have ew : wrap64 ((nf : Int) + (ng : Int)) = (nf : Int) + (ng : Int) := by unfold wrap64; omega
          by_cases hn : (namesM m).Nodup
          · have ez := z2.2 hn
            have ed : decide ((Z : Int) < (nf : Int) + (ng : Int)) = false := decide_eq_false (by omega)
            have HN := Lib.hid hn
            clear z1 z2 hn el hZ ez
            go_wp2_with fail
            go_ret2
            exact ⟨HB2.out, .inl ⟨HN.out, _, _, rfl, Nat.le_succ _, HG.out⟩⟩
          · have hne : Z ≠ nf + ng := fun e => hn (z2.1 e)
            have ed : decide ((Z : Int) < (nf : Int) + (ng : Int)) = true := decide_eq_true (by omega)
            have HN := Lib.hid hn
            clear z1 z2 hn el hZ hne
            go_wp2_with fail
            go_ret2
            exact ⟨HB2.out, .inr ⟨HN.out, rfl⟩⟩
end Go.Proofs.Ytkalgiaapkjplaa
