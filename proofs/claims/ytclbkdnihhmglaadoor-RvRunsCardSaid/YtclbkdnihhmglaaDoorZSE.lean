/- A machine that came in as an argument, opened: its cells, its pages, its bounds. A step of the machine, in numbers; and rv's step makes it, for every machine whose register 0 is 0. rv.Step, for every machine whose register 0 is 0; and the laws' question whether a machine is small. -/
import Derived.Test.YtclbkdnihhmglaaDoorZEJ
import Derived.Test.YtclbkdnihhmglaaDoorZSB
import Derived.OpenShut
import Derived.SizedLaws
import Derived.Test.YtclbkdnihhmglaaDoorZSC
import Derived.Test.YtclbkdnihhmglaaDoorZSD
import Derived.Test.YtclbkdnihhmglaaDoorZF
namespace Go.Proofs.YtclbkdnihhmglaaDoor
open Go.ChangeShapes Go.WideShapes Go.ChangeAt Go.RowKit Go.Deep Go.Joins

theorem cellsPage : Tryd.prog.cellsOf 43 = 3 := by kernel_rfl
section
variable {H : Type} {enc : TypeId × Value → H}
/-- the page that lies at a place -/
def pgAt (W : World) (b off i : Nat) : M.Pg :=
  ⟨match W.cell? ⟨b, off + i * 3, none⟩ with | some (.int _ z) => z | _ => 0, match W.cell? ⟨b, off + i * 3 + 1, none⟩ with | some (.int _ z) => z | _ => 0, match W.cell? ⟨b, off + i * 3 + 2, none⟩ with | some (.string s) => s | _ => .empty⟩
theorem open_pages {W : World} {base : Nat} {spare : Nat → Bool} {held : Bool} {c : Value} {fuel : Nat} {y : DataW H × List MemPlace} (h : DataW.trod enc Tryd.prog W base spare held fuel 24 [c] = some y) :
    ∃ (A : Option Addr) (nv cap : Nat) (m : List M.Pg), c = .slice A nv cap ∧ Pages W c m ∧ Wf m ∧ nv ≤ cap ∧ cap ≤ maxLen := by
  rcases open_slice Tryd.underlying24 h with ⟨h1, _⟩ | ⟨a, len, cap, m, n, D, Pl, hcs, _, hl, hm, hmm, _, hat⟩
  · simp only [List.cons.injEq, and_true] at h1
    subst h1
    exact ⟨none, 0, 0, [], rfl, .inl ⟨rfl, .inl rfl⟩, ⟨by simp, fun x h => by simp at h, fun x h => by simp at h⟩, Nat.le_refl _, by unfold maxLen; omega⟩
  · simp only [List.cons.injEq, and_true] at hcs
    subst hcs
    have hlm : len ≤ m := by rw [hmm]; split <;> omega
    have cells : ∀ i, i < len → ∃ (x p : Int) (s : ByteArray), (0 ≤ x ∧ x ≤ 18446744073709551615) ∧ W.cell? (a.add (i * 3)) = some (.int .u64 x) ∧ W.cell? (a.add (i * 3 + 1)) = some (.int .i64 p) ∧ W.cell? (a.add (i * 3 + 2)) = some (.string s) := fun i hi => by
      obtain ⟨cs', hc, ht⟩ := hat i (by omega)
      rw [cellsPage] at hc
      obtain ⟨_, hcl, hca⟩ := World.cells?_some hc
      obtain ⟨ys, q, _, _, _, hg⟩ := E.row_of Tryd.underlying43 (by kernel_rfl) cellsPage ht
      obtain ⟨c0, y0, g0, _, r0⟩ := hg 0 _ rfl
      obtain ⟨c1, y1, g1, _, r1⟩ := hg 1 _ rfl
      obtain ⟨c2, y2, g2, _, r2⟩ := hg 2 _ rfl
      obtain ⟨x, e0, _, wx⟩ := DataW.trod_int Tryd.underlying22 r0
      obtain ⟨p, e1, _, _⟩ := DataW.trod_int Tryd.underlying3 r1
      obtain ⟨s, e2, _, _⟩ := DataW.trod_string Tryd.underlying9 r2
      simp only [List.cons.injEq, and_true] at e0 e1 e2
      subst e0 e1 e2
      have k0 := hca 0 (by omega)
      have k1 := hca 1 (by omega)
      have k2 := hca 2 (by omega)
      rw [add_add] at k0 k1 k2
      exact ⟨x, p, s, bounds_u64 wx, k0.trans g0, k1.trans g1, k2.trans g2⟩
    by_cases h0 : 0 < len
    · obtain ⟨b, off, spot⟩ := a
      obtain ⟨_, _, _, _, hz0, _⟩ := cells 0 h0
      have hspot : spot = none := by simpa [Addr.add] using World.cell?_spot hz0
      subst hspot
      have hlen : ((List.range len).map (pgAt W b off)).length = len := by simp
      have hpg : ∀ i, i < len → ∃ (x p : Int) (s : ByteArray), (0 ≤ x ∧ x ≤ 18446744073709551615) ∧ pgAt W b off i = ⟨x, p, s⟩ ∧ W.cell? ⟨b, off + i * 3, none⟩ = some (.int .u64 x) ∧ W.cell? ⟨b, off + i * 3 + 1, none⟩ = some (.int .i64 p) ∧ W.cell? ⟨b, off + i * 3 + 2, none⟩ = some (.string s) := fun i hi => by
        obtain ⟨x, p, s, hx, k0, k1, k2⟩ := cells i hi
        rw [add_plain, ← Nat.add_assoc] at k1 k2
        rw [add_plain] at k0
        exact ⟨x, p, s, hx, by unfold pgAt; rw [k0, k1, k2], k0, k1, k2⟩
      have hmem : ∀ q ∈ (List.range len).map (pgAt W b off), 0 ≤ q.a ∧ q.a ≤ 18446744073709551615 := fun q hq => by
        obtain ⟨i, hi, rfl⟩ := List.mem_map.1 hq
        obtain ⟨x, p, s, hx, e, _⟩ := hpg i (List.mem_range.1 hi)
        rw [e]
        exact hx
      have hM : maxLen = 9223372036854775807 := rfl
      refine ⟨_, len, cap, (List.range len).map (pgAt W b off), rfl, .inr ⟨by omega, b, off, cap, by rw [hlen], World.block_lt_of_cell? W _ hz0, fun i hi => ?_⟩, ⟨by omega, fun q hq => (hmem q hq).1, fun q hq => (hmem q hq).2⟩, hl, hm⟩
      rw [List.getElem_map, List.getElem_range]
      obtain ⟨x, p, s, _, e, k⟩ := hpg i (by omega)
      rw [e]
      exact k
    · obtain rfl : len = 0 := by omega
      exact ⟨_, _, _, [], rfl, .inl ⟨rfl, .inr ⟨_, _, rfl⟩⟩, ⟨by simp, fun x h => by simp at h, fun x h => by simp at h⟩, hl, hm⟩

theorem cellsMach : Tryd.prog.cellsOf 26 = 39 := by kernel_rfl
theorem cellsU64 : Tryd.prog.cellsOf 22 = 1 := by kernel_rfl
theorem cellsX : Tryd.prog.cellsOf 23 = 32 := by kernel_rfl
theorem cellsInt : Tryd.prog.cellsOf 3 = 1 := by kernel_rfl
theorem cellsStr : Tryd.prog.cellsOf 9 = 1 := by kernel_rfl
theorem cellsSl : Tryd.prog.cellsOf 24 = 1 := by kernel_rfl
/-- bounds of a machine -/
structure MB (k : Mc) (m : List M.Pg) : Prop where
  x : ∀ j, j < 32 → 0 ≤ k.x j ∧ k.x j ≤ 18446744073709551615
  pc : 0 ≤ k.pc ∧ k.pc ≤ 18446744073709551615
  cd : 0 ≤ k.cd ∧ k.cd ≤ 18446744073709551615
  n : 0 ≤ k.n ∧ k.n ≤ 18446744073709551615
  st : -9223372036854775808 ≤ k.st ∧ k.st ≤ 9223372036854775807
  wf : Wf m
  ml : k.ml = m.length
def xOf (l : List Value) (i : Nat) : Int := match l[i]? with | some (.int _ z) => z | _ => 0
set_option maxRecDepth 100000 in
theorem open_mach {W : World} {r : Reach} {b0 base : Nat} {spare : Nat → Bool} {held : Bool} {v : Value} {d : DataW H} {p : List MemPlace} (hv : Value.okWide Tryd.prog W r b0 26 v)
    (h : DataW.Trod enc Tryd.prog W base spare held 26 v d p) :
    ∃ (k : Mc) (m : List M.Pg), v = .agg (mcells k) ∧ Pages W (.slice k.ma k.ml k.mc) m ∧ MB k m ∧ k.ml ≤ k.mc ∧ k.mc ≤ maxLen ∧ k.inp.size ≤ maxLen ∧
      (∃ parts : List (DataW H), d = .agg parts ∧ parts[4]? = some (.lit (.string k.out.data.toList))) := by
  obtain ⟨cs, rfl, hsz⟩ := okWide_struct Tryd.underlying26 hv
  obtain ⟨l⟩ := cs
  have hl : l.length = 39 := hsz.trans cellsMach
  obtain ⟨fuel, hf⟩ := h
  obtain ⟨ys, n, _, hx', _, hyl, hg⟩ := DataW.trod_struct Tryd.underlying26 hf
  have one : ∀ (i : Nat) (t : TypeId) (y : Option (DataW H × List MemPlace)) , i < 39 → DataW.trod enc Tryd.prog W base spare held n t ((l.drop i).take 1) = y → ∃ c, l[i]? = some c ∧ DataW.trod enc Tryd.prog W base spare held n t [c] = y := by
    intro i t y hi he
    have hil : i < l.length := by omega
    have e : (l.drop i).take 1 = [l[i]] := by rw [List.drop_eq_getElem_cons hil]; rfl
    rw [e] at he
    exact ⟨l[i], List.getElem?_eq_getElem hil, he⟩
  match ys, hyl with
  | [y0, y1, y2, y3, y4, y5, y6, y7], _ =>
    have g0 : DataW.trod enc Tryd.prog W base spare held n 23 ((l.drop 0).take 32) = some y0 := by have h := hg 0 _ rfl; simpa [Value.cells, cellsX] using h
    have g1 : DataW.trod enc Tryd.prog W base spare held n 22 ((l.drop 32).take 1) = some y1 := by have h := hg 1 _ rfl; simpa [Value.cells, cellsU64] using h
    have g2 : DataW.trod enc Tryd.prog W base spare held n 24 ((l.drop 33).take 1) = some y2 := by have h := hg 2 _ rfl; simpa [Value.cells, cellsSl] using h
    have g3 : DataW.trod enc Tryd.prog W base spare held n 9 ((l.drop 34).take 1) = some y3 := by have h := hg 3 _ rfl; simpa [Value.cells, cellsStr] using h
    have g4 : DataW.trod enc Tryd.prog W base spare held n 9 ((l.drop 35).take 1) = some y4 := by have h := hg 4 _ rfl; simpa [Value.cells, cellsStr] using h
    have g5 : DataW.trod enc Tryd.prog W base spare held n 3 ((l.drop 36).take 1) = some y5 := by have h := hg 5 _ rfl; simpa [Value.cells, cellsInt] using h
    have g6 : DataW.trod enc Tryd.prog W base spare held n 22 ((l.drop 37).take 1) = some y6 := by have h := hg 6 _ rfl; simpa [Value.cells, cellsU64] using h
    have g7 : DataW.trod enc Tryd.prog W base spare held n 22 ((l.drop 38).take 1) = some y7 := by have h := hg 7 _ rfl; simpa [Value.cells, cellsU64] using h
    obtain ⟨c1, i1, r1⟩ := one 32 _ _ (by omega) g1
    obtain ⟨c2, i2, r2⟩ := one 33 _ _ (by omega) g2
    obtain ⟨c3, i3, r3⟩ := one 34 _ _ (by omega) g3
    obtain ⟨c4, i4, r4⟩ := one 35 _ _ (by omega) g4
    obtain ⟨c5, i5, r5⟩ := one 36 _ _ (by omega) g5
    obtain ⟨c6, i6, r6⟩ := one 37 _ _ (by omega) g6
    obtain ⟨c7, i7, r7⟩ := one 38 _ _ (by omega) g7
    obtain ⟨pc, e1, _, w1⟩ := DataW.trod_int Tryd.underlying22 r1
    obtain ⟨A, nv, cap, m, rfl, hP, hW, hc1, hc2⟩ := open_pages r2
    obtain ⟨inp, e3, _, q3⟩ := DataW.trod_string Tryd.underlying9 r3
    obtain ⟨out, e4, z4, q4⟩ := DataW.trod_string Tryd.underlying9 r4
    obtain ⟨st, e5, _, w5⟩ := DataW.trod_int Tryd.underlying3 r5
    obtain ⟨cd, e6, _, w6⟩ := DataW.trod_int Tryd.underlying22 r6
    obtain ⟨nn, e7, _, w7⟩ := DataW.trod_int Tryd.underlying22 r7
    simp only [List.cons.injEq, and_true] at e1 e3 e4 e5 e6 e7
    subst e1 e3 e4 e5 e6 e7
    obtain ⟨xs, q, _, _, _, hxl, hel⟩ := DataW.trod_array Tryd.underlying23 g0
    have hx : ∀ i, i < 32 → ∃ z : Int, l[i]? = some (.int .u64 z) ∧ 0 ≤ z ∧ z ≤ 18446744073709551615 := by
      intro i hi
      have h1 := hel i hi
      rw [cellsU64, List.drop_zero, Nat.mul_one] at h1
      have e : ((l.take 32).drop i).take 1 = [l[i]'(by omega)] := by
        rw [List.drop_take, List.take_take, Nat.min_eq_left (by omega), List.drop_eq_getElem_cons (by omega)]
        rfl
      rw [e, List.getElem?_eq_getElem (by omega)] at h1
      obtain ⟨z, ez, _, wz⟩ := DataW.trod_int Tryd.underlying22 h1
      simp only [List.cons.injEq, and_true] at ez
      refine ⟨z, ?_, bounds_u64 wz⟩
      rw [List.getElem?_eq_getElem (by omega), ez]
    have hxo : ∀ i, i < 32 → l[i]? = some (.int .u64 (xOf l i)) ∧ 0 ≤ xOf l i ∧ xOf l i ≤ 18446744073709551615 := by
      intro i hi
      obtain ⟨z, h1, h2, h3⟩ := hx i hi
      have : xOf l i = z := by unfold xOf; rw [h1]
      rw [this]
      exact ⟨h1, h2, h3⟩
    have hlen : nv = m.length := by
      obtain ⟨A', cap', e⟩ := hP.slice
      cases e; rfl
    refine ⟨⟨xOf l, pc, A, nv, cap, inp, out, st, cd, nn⟩, m, ?_, hP, ⟨fun j hj => (hxo j hj).2, bounds_u64 w1, bounds_u64 w6, bounds_u64 w7, bounds_i64 w5, hW, hlen⟩, hc1, hc2, q3, ?_⟩
    · congr 1
      apply Array.ext'
      show l = (mcells _).toList
      unfold mcells
      rw [List.toList_toArray]
      apply List.ext_getElem?
      intro i
      by_cases h1 : i < 32
      · rw [(hxo i h1).1, List.getElem?_append_left (by rw [mregs_length]; exact h1)]
        simp [mregs, h1]
      · rw [List.getElem?_append_right (by rw [mregs_length]; omega), mregs_length]
        by_cases h2 : i < 39
        · have : i = 32 ∨ i = 33 ∨ i = 34 ∨ i = 35 ∨ i = 36 ∨ i = 37 ∨ i = 38 := by omega
          rcases this with rfl | rfl | rfl | rfl | rfl | rfl | rfl
          · rw [i1]; rfl
          · rw [i2]; rfl
          · rw [i3]; rfl
          · rw [i4]; rfl
          · rw [i5]; rfl
          · rw [i6]; rfl
          · rw [i7]; rfl
        · rw [List.getElem?_eq_none (by omega), List.getElem?_eq_none (by simp [mtail]; omega)]
    · refine ⟨_, congrArg Prod.fst hx', ?_⟩
      simp [z4]
end
/-- what was written is not longer than a machine bears -/
theorem out_size {H : Type} {ts : List TypeId} {ds : List (DataW H)} {j : Nat} {parts : List (DataW H)} {out : ByteArray} (h : (DataW.weightsEach Tryd.prog ts ds).all (· ≤ reachBytes) = true)
    (ht : ts[j]? = some 26) (hd : ds[j]? = some (.agg parts)) (ho : parts[4]? = some (.lit (.string out.data.toList))) : out.size ≤ 140737488351232 := by
  have hw : out.data.toList.length ∈ (DataW.agg parts).weights Tryd.prog 26 := by
    unfold DataW.weights
    rw [Tryd.underlying26]
    exact DataW.weights_mem_each (j := 4) rfl ho _ (by simp [DataW.weights])
  have := List.all_eq_true.1 h _ (DataW.weights_mem_each ht hd _ hw)
  have h2 := of_decide_eq_true this
  have h3 : reachBytes = 140737488351232 := rfl
  rw [h3, Array.length_toList] at h2
  exact h2
end Go.Proofs.YtclbkdnihhmglaaDoor

namespace Go.Proofs.YtclbkdnihhmglaaDoor
open Go.RowKit

/-- the kind of a word -/
def decK (v : Int) : Option Nat := (List.range 32).find? fun K => decide (1 ≤ K) && E.M.okAt v K
theorem decK_some {v : Int} {K : Nat} (h : decK v = some K) : 1 ≤ K ∧ K < 32 ∧ E.M.okAt v K = true := by
  have h1 := List.find?_some h
  have h2 := List.mem_of_find?_eq_some h
  simp at h1 h2
  exact ⟨h1.1, h2, h1.2⟩
theorem decK_none {v : Int} (h : decK v = none) (K : Nat) (h1 : 1 ≤ K) (h2 : K < 32) : E.M.okAt v K = false := by
  have h3 := List.find?_eq_none.1 h K (by simpa using h2)
  simpa [h1] using h3
/-- the machine behind a call, if there is such a one -/
def callR (k : Mc) : Option Mc :=
  if k.x 17 = 63 then some (if k.inp.size = 0 then { k with x := upd k.x 10 256 } else readM k)
  else if k.x 17 = 64 then some (writeM k)
  else if k.x 17 = 93 then some (exitM k)
  else none
/-- the machine behind an instruction, and its pages, if that could be done -/
def doR (t : Mc) (m : List M.Pg) (kd rd i : Int) (RA RB : Nat) : Option (Mc × List M.Pg) :=
  if kd = 19 then (if numErr m (lsAt (t.x RA) i) 8 4 = 0 then some (ldN t m 19 rd i RA RB 8, m) else none)
  else if kd = 20 then (if numErr m (lsAt (t.x RA) i) 1 4 = 0 then some (ldN t m 20 rd i RA RB 1, m) else none)
  else if kd = 21 then (if numErr m (lsAt (t.x RA) i) 8 2 = 0 then some (stN t 21 i RA RB, storeM m (lsAt (t.x RA) i) 8 (t.x RB).toNat) else none)
  else if kd = 22 then (if numErr m (lsAt (t.x RA) i) 1 2 = 0 then some (stN t 22 i RA RB, storeM m (lsAt (t.x RA) i) 1 (t.x RB).toNat) else none)
  else if kd = 31 then (match callR t with | none => none | some k => some (if k.st = 1 then k else { k with pc := nextI 31 i (t.x RA) (t.x RB) k.pc }, m))
  else some (aluN t kd rd i RA RB, m)
/-- a step -/
def stepR (k : Mc) (m : List M.Pg) : Mc × List M.Pg :=
  if k.st ≠ 0 then (k, m)
  else if k.pc % 4 = 0 ∧ numErr m k.pc 4 1 = 0 then
    match decK (loadV m k.pc 4 1) with
    | none => (trapM k, m)
    | some K =>
      match doR (tickM k) m K (E.M.tRd K (loadV m k.pc 4 1)) (E.M.tI K (loadV m k.pc 4 1)) (E.M.tA K (loadV m k.pc 4 1)).toNat (E.M.tB K (loadV m k.pc 4 1)).toNat with
      | none => (trapM k, m)
      | some r => r
  else (trapM k, m)

theorem call_yes {k r : Mc} (h : callR k = some r) (ho : k.out.size + 1 ≤ 9223372036854775807) (W : World) :
    Calls Tryd.prog 42 #[.agg (mcells k)] W (RetIs (.tuple #[.agg (mcells r), .bool true]) W) := by
  unfold callR at h
  by_cases h63 : k.x 17 = 63
  · rw [if_pos h63] at h
    by_cases hs : k.inp.size = 0
    · rw [if_pos hs] at h
      cases h
      exact call_read0 k W h63 (by cases hk : k.inp with | mk a => rw [hk] at hs; have h' : a.size = 0 := hs; rw [Array.size_eq_zero_iff.1 h'])
    · rw [if_neg hs] at h
      cases h
      exact call_read1 k W h63 (by intro e; rw [e] at hs; exact hs rfl)
  · rw [if_neg h63] at h
    by_cases h64 : k.x 17 = 64
    · rw [if_pos h64] at h
      cases h
      exact call_write k W h64 ho
    · rw [if_neg h64] at h
      by_cases h93 : k.x 17 = 93
      · rw [if_pos h93] at h
        cases h
        exact call_exit k W h93
      · rw [if_neg h93] at h
        cases h
theorem call_none {k : Mc} (h : callR k = none) (W : World) :
    Calls Tryd.prog 42 #[.agg (mcells k)] W (RetIs (.tuple #[.agg (mcells k), .bool false]) W) := by
  unfold callR at h
  by_cases h63 : k.x 17 = 63
  · rw [if_pos h63] at h; cases h
  rw [if_neg h63] at h
  by_cases h64 : k.x 17 = 64
  · rw [if_pos h64] at h; cases h
  rw [if_neg h64] at h
  by_cases h93 : k.x 17 = 93
  · rw [if_pos h93] at h; cases h
  exact call_no k W h63 h64 h93
theorem callR_st {k r : Mc} (h : callR k = some r) (h0 : k.st = 0) : r.st = 0 ∨ r.st = 1 := by
  unfold callR at h
  split at h
  · cases h
    split
    · exact .inl h0
    · exact .inl h0
  · split at h
    · cases h; exact .inl h0
    · split at h
      · cases h; exact .inr rfl
      · cases h
theorem callR_ma {k r : Mc} (h : callR k = some r) : r.ma = k.ma ∧ r.ml = k.ml ∧ r.mc = k.mc := by
  unfold callR at h
  split at h
  · cases h
    split <;> exact ⟨rfl, rfl, rfl⟩
  · split at h
    · cases h; exact ⟨rfl, rfl, rfl⟩
    · split at h
      · cases h; exact ⟨rfl, rfl, rfl⟩
      · cases h

structure DoPre (t : Mc) (m : List M.Pg) (rd ra rb : Int) (RA RB : Nat) : Prop where
  b : MB t m
  n : m.length * 32 ≤ 140737488355328
  z : t.x 0 = 0
  s : t.st = 0
  o : t.out.size + 1 ≤ 9223372036854775807
  d0 : 0 ≤ rd
  d1 : rd < 32
  a : ra = (RA : Int)
  bb : rb = (RB : Int)
  a1 : RA < 32
  b1 : RB < 32
theorem do_yes {t : Mc} {m : List M.Pg} {kd rd ra rb i : Int} {RA RB : Nat} (H : DoPre t m rd ra rb RA RB) {K : Mc} {m2 : List M.Pg} (h : doR t m kd rd i RA RB = some (K, m2)) (W : World) (hP : Pages W (.slice t.ma t.ml t.mc) m) :
    Calls Tryd.prog 24 #[.agg (mcells t), .agg #[.int .i64 kd, .int .i64 rd, .int .i64 ra, .int .i64 rb, .int .i64 i]] W (DoPost K m2 true W) := by
  obtain ⟨hB, hn, hz, hs, ho, d0, d1, rfl, rfl, a1, b1⟩ := H
  unfold doR at h
  by_cases h19 : kd = 19
  · subst h19
    rw [if_pos rfl] at h
    split at h
    · rename_i e
      cases h
      have := do_ld t m rd i RA RB W hP hB.wf hn hB.x hz hs d0 d1 a1 b1
      rw [e] at this
      exact this
    · cases h
  rw [if_neg h19] at h
  by_cases h20 : kd = 20
  · subst h20
    rw [if_pos rfl] at h
    split at h
    · rename_i e
      cases h
      have := do_lbu t m rd i RA RB W hP hB.wf hn hB.x hz hs d0 d1 a1 b1
      rw [e] at this
      exact this
    · cases h
  rw [if_neg h20] at h
  by_cases h21 : kd = 21
  · subst h21
    rw [if_pos rfl] at h
    split at h
    · rename_i e
      cases h
      have := do_sd t m rd i RA RB W hP hB.wf hn hB.x hz hs d0 d1 a1 b1
      rw [e] at this
      exact this
    · cases h
  rw [if_neg h21] at h
  by_cases h22 : kd = 22
  · subst h22
    rw [if_pos rfl] at h
    split at h
    · rename_i e
      cases h
      have := do_sb t m rd i RA RB W hP hB.wf hn hB.x hz hs d0 d1 a1 b1
      rw [e] at this
      exact this
    · cases h
  rw [if_neg h22] at h
  by_cases h31 : kd = 31
  · subst h31
    rw [if_pos rfl] at h
    cases hc : callR t with
    | none => rw [hc] at h; cases h
    | some k2 =>
      rw [hc] at h
      cases h
      obtain ⟨e1, e2, e3⟩ := callR_ma hc
      by_cases hs2 : k2.st = 1
      · rw [if_pos hs2]
        exact (do_over t k2 rd i RA RB W hz hs2 a1 b1 (fun W => call_yes hc ho W)).mono fun e w' h => doPost_of (by rw [e1, e2, e3]; exact hP) h
      · rw [if_neg hs2]
        have hs3 : k2.st = 0 := (callR_st hc hs).resolve_right hs2
        exact (do_went t k2 rd i RA RB W hz hs3 a1 b1 (fun W => call_yes hc ho W)).mono fun e w' h => doPost_of (by show Pages W (.slice k2.ma k2.ml k2.mc) m; rw [e1, e2, e3]; exact hP) h
  · rw [if_neg h31] at h
    cases h
    exact (do_alu2 t kd rd i RA RB W hB.x hz hs d0 d1 a1 b1 ⟨h19, h20, h21, h22, h31⟩).mono fun e w' h => doPost_of hP h
theorem do_no {t : Mc} {m : List M.Pg} {kd rd ra rb i : Int} {RA RB : Nat} (H : DoPre t m rd ra rb RA RB) (h : doR t m kd rd i RA RB = none) : ∃ K m2, ∀ (W : World), Pages W (.slice t.ma t.ml t.mc) m →
    Calls Tryd.prog 24 #[.agg (mcells t), .agg #[.int .i64 kd, .int .i64 rd, .int .i64 ra, .int .i64 rb, .int .i64 i]] W (DoPost K m2 false W) := by
  obtain ⟨hB, hn, hz, hs, ho, d0, d1, rfl, rfl, a1, b1⟩ := H
  have bf : ∀ e : Int, ¬ e = 0 → (e == 0) = false := fun e h => by simpa using h
  unfold doR at h
  by_cases h19 : kd = 19
  · subst h19
    rw [if_pos rfl] at h
    split at h
    · cases h
    · rename_i e
      refine ⟨ldN t m 19 rd i RA RB 8, m, fun W hP => ?_⟩
      have := do_ld t m rd i RA RB W hP hB.wf hn hB.x hz hs d0 d1 a1 b1
      rw [bf _ e] at this
      exact this
  rw [if_neg h19] at h
  by_cases h20 : kd = 20
  · subst h20
    rw [if_pos rfl] at h
    split at h
    · cases h
    · rename_i e
      refine ⟨ldN t m 20 rd i RA RB 1, m, fun W hP => ?_⟩
      have := do_lbu t m rd i RA RB W hP hB.wf hn hB.x hz hs d0 d1 a1 b1
      rw [bf _ e] at this
      exact this
  rw [if_neg h20] at h
  by_cases h21 : kd = 21
  · subst h21
    rw [if_pos rfl] at h
    split at h
    · cases h
    · rename_i e
      refine ⟨stN t 21 i RA RB, storeM m (lsAt (t.x RA) i) 8 (t.x RB).toNat, fun W hP => ?_⟩
      have := do_sd t m rd i RA RB W hP hB.wf hn hB.x hz hs d0 d1 a1 b1
      rw [bf _ e] at this
      exact this
  rw [if_neg h21] at h
  by_cases h22 : kd = 22
  · subst h22
    rw [if_pos rfl] at h
    split at h
    · cases h
    · rename_i e
      refine ⟨stN t 22 i RA RB, storeM m (lsAt (t.x RA) i) 1 (t.x RB).toNat, fun W hP => ?_⟩
      have := do_sb t m rd i RA RB W hP hB.wf hn hB.x hz hs d0 d1 a1 b1
      rw [bf _ e] at this
      exact this
  rw [if_neg h22] at h
  by_cases h31 : kd = 31
  · subst h31
    rw [if_pos rfl] at h
    cases hc : callR t with
    | some k2 => rw [hc] at h; cases h
    | none => exact ⟨{ t with pc := nextI 31 i (t.x RA) (t.x RB) t.pc }, m, fun W hP => (do_not t t rd i RA RB W hz hs a1 b1 (fun W => call_none hc W)).mono fun e w' h => doPost_of (by exact hP) h⟩
  · rw [if_neg h31] at h
    cases h

theorem load4_in (m : List M.Pg) (a : Int) : 0 ≤ loadV m a 4 1 ∧ loadV m a 4 1 < 4294967296 := by
  unfold loadV
  split
  · have h := M.num_lt (M.bytesOf m a (4 : Int).toNat)
    rw [M.bytesOf_length, show (256 : Int) ^ (4 : Int).toNat = 4294967296 from rfl] at h
    exact ⟨M.num_nonneg _, h⟩
  · omega
theorem MB.tick {k : Mc} {m : List M.Pg} (h : MB k m) : MB (tickM k) m :=
  ⟨h.x, h.pc, h.cd, by show 0 ≤ IntKind.u64.wrap (k.n + 1) ∧ IntKind.u64.wrap (k.n + 1) ≤ _; rw [IntKind.wrap_u64]; omega, h.st, h.wf, h.ml⟩
/-- what a step wants of a machine -/
structure Fit (k : Mc) (m : List M.Pg) : Prop where
  b : MB k m
  n : m.length * 32 ≤ 140737488355328
  z : k.x 0 = 0
  o : k.out.size + 1 ≤ 9223372036854775807
theorem step_any (k : Mc) (m : List M.Pg) (w : World) (hP : Pages w (.slice k.ma k.ml k.mc) m) (H : Fit k m) (T : E.Tabs w) :
    Calls Tryd.prog 15 #[.agg (mcells k)] w (StepPostT (stepR k m).1 (stepR k m).2 w) := by
  obtain ⟨hB, hn, hz, ho⟩ := H
  unfold stepR
  by_cases hst : k.st ≠ 0
  · rw [if_pos hst]
    exact (step_over k w hst).mono fun e w' h => stepPost_of hP h
  rw [if_neg hst]
  have hst : k.st = 0 := by omega
  by_cases hf : k.pc % 4 = 0 ∧ numErr m k.pc 4 1 = 0
  · rw [if_pos hf]
    obtain ⟨v0, v1⟩ := load4_in m k.pc
    cases hd : decK (loadV m k.pc 4 1) with
    | none => exact step_none k m w hst (fun W hb => fetch_none (tickM k) m (hP.next hb) hB.wf (T.next hb) hB.pc.1 hB.pc.2 hf.1 hf.2 (decK_none hd) v0 v1) hP
    | some K =>
      obtain ⟨k1, k2, hok⟩ := decK_some hd
      obtain ⟨g1, g2⟩ := E.take_okI k1 k2 hok
      obtain ⟨-, -, ⟨d0, d1⟩, ⟨a0, a1⟩, ⟨b0, b1⟩, -, -⟩ := okI_regs g1
      have hF : ∀ W, Below w.heap.size w W → Calls Tryd.prog 23 #[.agg (mcells (tickM k))] W fun e w' => e = .returned (.tuple #[.agg #[.int .i64 (K : Int), .int .i64 (E.M.tRd K (loadV m k.pc 4 1)), .int .i64 (E.M.tA K (loadV m k.pc 4 1)), .int .i64 (E.M.tB K (loadV m k.pc 4 1)), .int .i64 (E.M.tI K (loadV m k.pc 4 1))], .bool true]) ∧ Below W.heap.size W w' :=
        fun W hb => fetch_yes (tickM k) m (hP.next hb) hB.wf (T.next hb) hB.pc.1 hB.pc.2 _ _ _ _ _ hf.1 hf.2 g2.symm g1
      have HD : DoPre (tickM k) m (E.M.tRd K (loadV m k.pc 4 1)) (E.M.tA K (loadV m k.pc 4 1)) (E.M.tB K (loadV m k.pc 4 1)) (E.M.tA K (loadV m k.pc 4 1)).toNat (E.M.tB K (loadV m k.pc 4 1)).toNat :=
        ⟨hB.tick, hn, hz, hst, ho, d0, d1, by omega, by omega, by omega, by omega⟩
      simp only
      cases hr : doR (tickM k) m K (E.M.tRd K (loadV m k.pc 4 1)) (E.M.tI K (loadV m k.pc 4 1)) (E.M.tA K (loadV m k.pc 4 1)).toNat (E.M.tB K (loadV m k.pc 4 1)).toNat with
      | none =>
        obtain ⟨K', m2, hD⟩ := do_no HD hr
        exact step_not k K' m m2 _ _ _ _ _ w hst hF (fun W hb => hD W (hP.next hb)) hP
      | some r =>
        obtain ⟨K', m2⟩ := r
        exact step_done2 k K' m2 _ _ _ _ _ w hst hF (fun W hb => do_yes HD hr W (hP.next hb))
  · rw [if_neg hf]
    by_cases h4 : k.pc % 4 = 0
    · exact step_none k m w hst (fun W hb => fetch_bad (tickM k) m (hP.next hb) hB.wf hB.pc.1 hB.pc.2 h4 (fun e => hf ⟨h4, e⟩)) hP
    · exact step_none k m w hst (fun W hb => fetch_odd (tickM k) hB.pc.1 hB.pc.2 h4) hP
end Go.Proofs.YtclbkdnihhmglaaDoor

namespace Go.Proofs.YtclbkdnihhmglaaDoor
open Go.RowKit

def withM (k : Mc) (A : Option Addr) (l c : Nat) : Mc := { k with ma := A, ml := l, mc := c }
theorem callR_with (k : Mc) (A : Option Addr) (l c : Nat) : callR (withM k A l c) = (callR k).map (fun r => withM r A l c) := by
  unfold callR
  show (if k.x 17 = 63 then some (if k.inp.size = 0 then _ else _) else if k.x 17 = 64 then _ else if k.x 17 = 93 then _ else none) = _
  split
  · split <;> rfl
  · split
    · rfl
    · split <;> rfl
theorem doR_with (t : Mc) (A : Option Addr) (l c : Nat) (m : List M.Pg) (kd rd i : Int) (RA RB : Nat) : doR (withM t A l c) m kd rd i RA RB = (doR t m kd rd i RA RB).map (fun r => (withM r.1 A l c, r.2)) := by
  unfold doR
  by_cases h19 : kd = 19
  · rw [if_pos h19, if_pos h19]
    show (if numErr m (lsAt (t.x RA) i) 8 4 = 0 then _ else none) = _
    split <;> rfl
  rw [if_neg h19, if_neg h19]
  by_cases h20 : kd = 20
  · rw [if_pos h20, if_pos h20]
    show (if numErr m (lsAt (t.x RA) i) 1 4 = 0 then _ else none) = _
    split <;> rfl
  rw [if_neg h20, if_neg h20]
  by_cases h21 : kd = 21
  · rw [if_pos h21, if_pos h21]
    show (if numErr m (lsAt (t.x RA) i) 8 2 = 0 then _ else none) = _
    split <;> rfl
  rw [if_neg h21, if_neg h21]
  by_cases h22 : kd = 22
  · rw [if_pos h22, if_pos h22]
    show (if numErr m (lsAt (t.x RA) i) 1 2 = 0 then _ else none) = _
    split <;> rfl
  rw [if_neg h22, if_neg h22]
  by_cases h31 : kd = 31
  · rw [if_pos h31, if_pos h31, callR_with]
    cases callR t with
    | none => rfl
    | some k2 =>
      simp only [Option.map_some]
      show some ((if k2.st = 1 then _ else _), m) = _
      split <;> rfl
  · rw [if_neg h31, if_neg h31]
    rfl
theorem stepR_with (k : Mc) (A : Option Addr) (l c : Nat) (m : List M.Pg) : stepR (withM k A l c) m = (withM (stepR k m).1 A l c, (stepR k m).2) := by
  unfold stepR
  show (if k.st ≠ 0 then _ else if k.pc % 4 = 0 ∧ numErr m k.pc 4 1 = 0 then _ else _) = _
  by_cases h0 : k.st ≠ 0
  · rw [if_pos h0, if_pos h0]
  rw [if_neg h0, if_neg h0]
  by_cases h1 : k.pc % 4 = 0 ∧ numErr m k.pc 4 1 = 0
  · rw [if_pos h1, if_pos h1]
    show (match decK (loadV m k.pc 4 1) with | none => _ | some K => _) = _
    cases decK (loadV m k.pc 4 1) with
    | none => rfl
    | some K =>
      simp only
      show (match doR (withM (tickM k) A l c) m K (E.M.tRd K (loadV m k.pc 4 1)) (E.M.tI K (loadV m k.pc 4 1)) (E.M.tA K (loadV m k.pc 4 1)).toNat (E.M.tB K (loadV m k.pc 4 1)).toNat with | none => (trapM (withM k A l c), m) | some r => r) = _
      rw [doR_with]
      cases doR (tickM k) m K (E.M.tRd K (loadV m k.pc 4 1)) (E.M.tI K (loadV m k.pc 4 1)) (E.M.tA K (loadV m k.pc 4 1)).toNat (E.M.tB K (loadV m k.pc 4 1)).toNat with
      | none => rfl
      | some r => rfl
  · rw [if_neg h1, if_neg h1]
    rfl
theorem Fit.with {k : Mc} {m : List M.Pg} (h : Fit k m) (A : Option Addr) (l c : Nat) (hl : l = m.length) : Fit (withM k A l c) m :=
  ⟨⟨h.b.x, h.b.pc, h.b.cd, h.b.n, h.b.st, h.b.wf, hl⟩, h.n, h.z, h.o⟩


def fewB (k : Mc) : Bool := decide (k.ml ≤ 70) && (k.x 0 == 0)
set_option maxHeartbeats 1000000 in
theorem few_any (k : Mc) (w : World) : Calls Tryd.prog 5 #[.agg (mcells k)] w (RetIs (.bool (fewB k)) w) := by
  have c33 := mcells_33 k
  have c0 := mcells_x k 0 (by omega)
  by_cases h1 : k.ml ≤ 70
  · have HE := Lib.hid (show fewB k = (k.x 0 == 0) by unfold fewB; simp [h1])
    have h2 : (k.ml : Int) ≤ 70 := by omega
    go_enter Tryd.func5, Tryd.ntmps5
    go_wp2_with fail
    go_ret
    exact ⟨ret_bool (by rw [HE.out]), balloc (Below.refl _ _) _⟩
  · have HE := Lib.hid (show fewB k = false by unfold fewB; simp [h1])
    have h2 : ¬ (k.ml : Int) ≤ 70 := by omega
    go_enter Tryd.func5, Tryd.ntmps5
    go_wp2_with fail
    go_ret
    exact ⟨ret_bool (by rw [HE.out]), balloc (Below.refl _ _) _⟩
end Go.Proofs.YtclbkdnihhmglaaDoor
