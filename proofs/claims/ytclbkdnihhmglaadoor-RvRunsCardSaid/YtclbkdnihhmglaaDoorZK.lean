/- The reference's put: memory with one byte. The reference's Store. -/
import Derived.Test.YtclbkdnihhmglaaDoorZJ
import Derived.Outline
namespace Go.Proofs.YtclbkdnihhmglaaDoor
open Go.RowKit Go.Shelf

attribute [local go_sem] Oper.semAt_some

theorem set_same {α : Type} {l : List α} {k : Nat} {a : α} (h : l[k]? = some a) : l.set k a = l := by
  apply List.ext_getElem?
  intro j
  by_cases e : j = k
  · subst e
    rw [List.getElem?_set_self (List.getElem?_eq_some_iff.1 h).1, h]
  · rw [List.getElem?_set_ne (by omega)]
theorem OwnsP.putD {W : World} {base g n cap : Nat} {m : List M.Pg} (h : OwnsP W base (.slice (some ⟨g, 0, none⟩) n cap) m) (hn : m.length = n) (i : Nat) (d : ByteArray) (hi : i < m.length) :
    OwnsP (W.setCell ⟨g, i * 3 + 2, none⟩ (.string d)) base (.slice (some ⟨g, 0, none⟩) n cap) (m.set i ⟨m[i].a, m[i].p, d⟩) := by
  subst hn
  have h' : W.ownsRow base 43 3 (.slice (some ⟨g, 0, none⟩) m.length cap) m.length (cellsOf m) := h
  rcases h'.2 with ⟨e, _⟩ | ⟨g', cap', cur, e, hb, hg, h1, h2, h3, h4⟩
  · cases e
  · cases e
    have e3 := Whole.put (show Whole W g 43 cur from hg) (i * 3 + 2) (.string d)
    obtain ⟨k0, k1, k2⟩ := cellsOf_at m i hi
    refine ⟨?_, .inr ⟨g, cap, _, ?_, hb, e3, ?_, h2, ?_, ?_⟩⟩
    · rw [cellsOf_length]
    · rw [List.length_set]
    · rw [List.length_set]; exact h1
    · simp [h3]
    · rw [List.length_set, cellsOf_set m i _ hi, ← h4]
      rw [← h4] at k0 k1
      simp only [Array.toList_setIfInBounds, List.take_set]
      rw [set_same k0, set_same k1]
theorem grownBy_alloc (W : World) (o : Obj) : W.grownBy (W.alloc o) none := ⟨rfl, rfl, rfl, by simp, fun k hk _ => Below.heap_alloc _ _ _ hk⟩
/-- the row of bytes that a string's bytes are copied into -/
def rowOf (W : World) (d : ByteArray) : Obj := .cells (bytesRow d (grownCap W d.size 0 5)) 5 ((bytesRow d (grownCap W d.size 0 5)).size, (bytesRow d (grownCap W d.size 0 5)).size + 1)
theorem rowOf_cells (W : World) (d : ByteArray) : bytesRow d (grownCap W d.size 0 5) = (Lib.byteCells d.data.toList ++ List.replicate (grownCap W d.size 0 5 - d.size) (Value.int .u8 0)).toArray := by
  simp [bytesRow, Lib.byteCells]
theorem rowOf_cell (W : World) (d : ByteArray) {q : Nat} (hq : q < d.size) : (W.alloc (rowOf W d)).cell? ⟨W.heap.size, q, none⟩ = some (.int .u8 ((d[q]).toNat : Int)) := by
  rw [cell_of_row _ _ q _ _ _ (heap_alloc_new W (rowOf W d)), rowOf_cells, List.getElem?_toArray, List.getElem?_append_left (by rw [Lib.byteCells_length, ← Lib.size_eq]; omega)]
  have hq2 : q < d.data.toList.length := by rw [← Lib.size_eq]; omega
  simp only [Lib.byteCells, List.getElem?_map, List.getElem?_eq_getElem hq2]
  rfl
theorem rowOf_free (W : World) (d : ByteArray) {q : Nat} (hq : q < d.size) : (W.alloc (rowOf W d)).frozen? ⟨W.heap.size, q, none⟩ = false := by
  unfold World.frozen?
  rw [heap_alloc_new W (rowOf W d)]
  have h : q < (bytesRow d (grownCap W d.size 0 5)).size := by
    rw [rowOf_cells, List.size_toArray, List.length_append, Lib.byteCells_length, ← Lib.size_eq]; omega
  simp only [rowOf]
  simp
  omega
/-- back to a string, behind one byte's writing -/
theorem rowOf_back (W : World) (d : ByteArray) {q : Nat} (hq : q < d.size) (b : UInt8) :
    (convert 45 9 (.slice (some ⟨W.heap.size, 0, none⟩) d.size (grownCap W d.size 0 5))).run Tryd.prog ((W.alloc (rowOf W d)).setCell ⟨W.heap.size, q, none⟩ (.int .u8 (b.toNat : Int))).drew =
      .ok (.string ⟨d.data.set! q b⟩) ((W.alloc (rowOf W d)).setCell ⟨W.heap.size, q, none⟩ (.int .u8 (b.toNat : Int))).drew := by
  have hnew := heap_alloc_new W (rowOf W d)
  generalize hV : W.alloc (rowOf W d) = V at *
  have hg : (V.setCell ⟨W.heap.size, q, none⟩ (.int .u8 (b.toNat : Int))).drew.heap[W.heap.size]? = some (.cells ((bytesRow d (grownCap W d.size 0 5)).setIfInBounds q (.int .u8 (b.toNat : Int))) 5 ((bytesRow d (grownCap W d.size 0 5)).size, (bytesRow d (grownCap W d.size 0 5)).size + 1)) := by
    show (V.setCell ⟨W.heap.size, q, none⟩ (.int .u8 (b.toNat : Int))).heap[W.heap.size]? = _
    simp [World.setCell, Array.getElem?_modify, hnew, rowOf]
  have hd : (d.data.set! q b).toList = d.data.toList.set q b := by rw [Array.set!_eq_setIfInBounds, Array.toList_setIfInBounds]
  have h := run_convert_bytes_arg (V.setCell ⟨W.heap.size, q, none⟩ (.int .u8 (b.toNat : Int))).drew 45 5 Tryd.underlying45 Tryd.underlying5 W.heap.size 0 d.size (grownCap W d.size 0 5) ((d.data.set! q b).toList.map (fun b => (b.toNat : Int))) (by rw [List.length_map, hd, List.length_set, ← Lib.size_eq]) (fun i hi => by
    rw [Nat.zero_add, cell_of_row _ _ i _ _ _ hg, rowOf_cells, hd, ← Array.getElem?_toList, Array.toList_setIfInBounds]
    have hl : d.data.toList.length = d.size := by rw [← Lib.size_eq]
    by_cases e : i = q
    · subst e
      rw [List.getElem?_set_self (by simp [Lib.byteCells_length, hl]; omega), List.getD_eq_getElem?_getD, List.getElem?_map, List.getElem?_set_self (by omega)]
      rfl
    · rw [List.getElem?_set_ne (by omega), List.getD_eq_getElem?_getD, List.getElem?_map, List.getElem?_set_ne (by omega)]
      simp only
      rw [List.getElem?_append_left (by rw [Lib.byteCells_length]; omega)]
      simp only [Lib.byteCells, List.getElem?_map, List.getElem?_eq_getElem (show i < d.data.toList.length by omega)]
      rfl) 9 Tryd.underlying9
  rw [h]
  have e : (d.data.toList.set q b).toArray = d.data.setIfInBounds q b := by
    apply Array.ext'
    rw [Array.toList_setIfInBounds]
  simp [strOfNums, Function.comp_def, e]

set_option maxRecDepth 100000 in
set_option maxHeartbeats 4000000 in
theorem refPut_any {m : List M.Pg} {v : Value} (t : Int) (b : Nat) {w : World} (hP : Pages w v m) (hR : M.Right m) (t0 : 0 ≤ t) (t1 : t ≤ 18446744073709551615) (ht : M.there m (t - t % 256) = true) (hb : b < 256) :
    Calls Tryd.prog 21 #[v, .int .u64 t, .int .u8 b] w (NewPages (laid m t [UInt8.ofNat b]) w) := by
  have HA := Lib.hid (refAt_any t hP hR t0 t1)
  obtain ⟨hi, he⟩ := (M.there_iff hR.up _).1 ht
  obtain ⟨i, hie⟩ : ∃ i, M.low m (t - t % 256) = i := ⟨_, rfl⟩
  have hA : atI m t = i := by unfold atI; rw [ht, hie]; rfl
  rw [hA] at HA
  simp only [hie] at hi he
  have HL := Lib.hid (laid_one hR ht hi hie (UInt8.ofNat b))
  have hsz := hR.size hi
  have hml := hR.len
  have O0 := fun W : World => Lib.hid (show OwnsP (W.alloc (.cells #[] 43)) W.heap.size (.slice (some ⟨W.heap.size, 0, none⟩) 0 0) [] from ⟨rfl, .inr ⟨W.heap.size, 0, #[], rfl, Nat.le_refl _, heap_alloc_new _ _, Nat.le_refl _, by unfold maxLen; omega, rfl, rfl⟩⟩)
  have HP := Lib.hid (hP.next (balloc (Below.refl _ w) (.cells #[] 43)))
  obtain ⟨A, cap, hv⟩ := hP.slice
  obtain ⟨n, hn⟩ : ∃ n, m.length = n := ⟨_, rfl⟩
  have hin : i < n := by omega
  rw [hn] at hv
  subst hv
  have HN := Lib.hid hn
  obtain ⟨⟨qa, qp, d⟩, hq⟩ : ∃ q, m[i] = q := ⟨_, rfl⟩
  have HQ := Lib.hid hq
  rw [hq] at he hsz HL
  simp only at he hsz HL
  have HI := Lib.hid hi
  have H0 := O0 w
  have HML := Lib.hid hml
  have HE := Lib.hid he
  have HSZ := Lib.hid hsz
  clear hP hR hA hie hn hq ht O0 hml he hsz
  go_enter Tryd.func21, Tryd.ntmps21
  go_wp2_with fail
  refine HA.out.mono ?_
  rintro e w1 ⟨rfl, rfl⟩
  have i0 : (0 : Int) ≤ (i : Int) := Int.natCast_nonneg _
  have i1 : (i : Int) < (n : Int) := by omega
  have hcv : ∀ W : World, (convert 9 45 (.string d)).run Tryd.prog W = .ok (.slice (some ⟨W.heap.size, 0, none⟩) d.size (grownCap W d.size 0 5)) (W.drew.alloc (rowOf W d)) := fun W => run_bytes_of_string W _ _ _ d Tryd.underlying9 Tryd.underlying45 Tryd.underlying5
  obtain ⟨q, hqe⟩ := Int.eq_ofNat_of_zero_le (show 0 ≤ t % 256 by omega)
  have hq2 : IntKind.u64.wrap (t - qa) = (q : Int) := by rw [HE.out, IntKind.wrap_u64]; omega
  have HQE := Lib.hid hqe
  have hqd : q < d.size := by rw [HSZ.out]; omega
  have hc := fun W => rowOf_cell W d hqd
  have hf := fun W => rowOf_free W d hqd
  have hk := fun W => rowOf_back W d hqd (UInt8.ofNat b)
  rw [show (UInt8.ofNat b).toNat = b by simp; omega] at hk
  clear hqe
  go_wp2_with ((
    at_builtin
    refine wpList_append_pages rfl _ _ rfl w.heap.size _ [] m rfl H0.out _ rfl HP.out (by have := HML.out; have h : ([] : List M.Pg).length = 0 := rfl; omega) (by simp) ?_
    intro v' w1 hown hgrow
    have HB := Lib.hid ((balloc (Below.refl _ w) _).grown hgrow (by simp) (fun k hk => by cases hk; exact Nat.le_refl _))
    rw [List.nil_append] at hown
    have hown' : w1.ownsRow w.heap.size 43 3 v' m.length (cellsOf m) := hown
    obtain ⟨g, cp, rfl, hg0, hg⟩ := hown'.form (by have := HI.out; omega)
    have HG0 := Lib.hid hg0
    rw [HN.out] at hown
    obtain ⟨cur, hcur, e0, e1, e2⟩ := hown.at_ i HI.out
    rw [HQ.out] at e0 e1 e2
    simp only at e0 e1 e2
    rw [HN.out]
    have HOW := Lib.hid hown
    have ff := hcur.free (i * 3 + 2)
    clear hown hown' hgrow hcur hg0))
  go_ret
  have hB3 : Below w.heap.size w (w1.alloc (rowOf w1 d)) := bthen HB.out (balloc (Below.refl _ _) _)
  have hB4 := hB3.setCell (p := ⟨w1.heap.size, q, none⟩) (by have := HB.out.size; simpa using this) (.int .u8 (b : Int))
  have hB5 := hB4.setCell (p := ⟨g, i * 3 + 2, none⟩) HG0.out (.string ⟨d.data.setIfInBounds q (UInt8.ofNat b)⟩)
  refine ⟨_, rfl, ?_, hB5.drew⟩
  rw [HL.out, HQE.out, show ((q : Int)).toNat = q by omega, Array.set!_eq_setIfInBounds]
  have o1 : OwnsP (w1.alloc (rowOf w1 d)) w.heap.size (.slice (some ⟨g, 0, none⟩) n cp) m := ownsP_kept (row := none) HOW.out (grownBy_alloc w1 _) (.inr (fun e => by cases e))
  have o2 := ownsP_kept o1 (grownBy_put (w1.alloc (rowOf w1 d)) w1.heap.size q (.int .u8 (b : Int))) (.inr (fun e => by have h : g = w1.heap.size := Option.some.inj e; omega))
  have o3 := o2.putD HN.out i ⟨d.data.setIfInBounds q (UInt8.ofNat b)⟩ HI.out
  rw [HQ.out] at o3
  exact o3
end Go.Proofs.YtclbkdnihhmglaaDoor

namespace Go.Proofs.YtclbkdnihhmglaaDoor
open Go.RowKit

attribute [local go_sem] Oper.semAt_some

/-- a slice of these pages, and an error's number -/
def RefPages (m : List M.Pg) (err : Int) (w : World) (e : Ending) (w' : World) : Prop := ∃ v', e = .returned (.tuple #[v', .int .i64 err]) ∧ Pages w' v' m ∧ Below w.heap.size w w'
theorem store_all {m : List M.Pg} {a : Int} {N x : Nat} (hr : rightB m = true) (a0 : 0 ≤ a) (h1 : 1 ≤ N) (h8 : N ≤ 8) :
    ((∀ j : Nat, j < N → placeB m (a + j) 2 = true) → numErr m a N 2 = 0 ∧ storeM m a N x = laid m a (M.lowest x N)) ∧
    ((∃ j : Nat, j < N ∧ placeB m (a + j) 2 = false) → numErr m a N 2 = 6 ∧ storeM m a N x = m) := by
  obtain ⟨g0, g6⟩ := num_all (m := m) (perm := 2) hr a0 h1 h8
  exact ⟨fun h => ⟨(g0 h).1, by unfold storeM; rw [if_pos (g0 h).1]; simp⟩, fun h => ⟨(g6 h).1, by unfold storeM; rw [if_neg (by have := (g6 h).1; omega)]⟩⟩
/-- one byte more -/
theorem laid_next {m : List M.Pg} (a : Int) (x k : Nat) : laid (laid m a (M.lowest x k)) (a + k) [UInt8.ofNat (x / 256 ^ k % 256)] = laid m a (M.lowest x (k + 1)) := by
  have h := laid_snoc m a (M.lowest x k) (UInt8.ofNat (x / 256 ^ k % 256))
  rw [M.lowest_length] at h
  rw [h, M.lowest_snoc]
theorem new_pages {K : List M.Pg} {w W : World} {e : Ending} {w' : World} (h : NewPages K W e w') (hb : Below w.heap.size w W) (nv : Nat) (hn : K.length = nv) : ∃ A cap, e = .returned (.slice A nv cap) ∧ Pages w' (.slice A nv cap) K ∧ Below w.heap.size w w' := by
  obtain ⟨v', rfl, ho, hb'⟩ := h
  have hp := ho.pages
  obtain ⟨A, cap, rfl⟩ := hp.slice
  rw [hn] at hp ⊢
  exact ⟨A, cap, rfl, hp, bthen hb hb'⟩

set_option maxRecDepth 100000 in
set_option maxHeartbeats 4000000 in
theorem refStore_any {m : List M.Pg} {v : Value} (a n : Int) (x : Nat) {w : World} (hP : Pages w v m) (hw : Wf m) (a0 : 0 ≤ a) (a1 : a ≤ 18446744073709551615) (n0 : -9223372036854775808 ≤ n) (n1 : n ≤ 9223372036854775807) (hx : x < 18446744073709551616) :
    Calls Tryd.prog 28 #[v, .int .u64 a, .int .i64 n, .int .u64 x] w (RefPages (storeM m a n x) (numErr m a n 2) w) := by
  have HQ := Lib.hid (refRight_any hP hw.a0)
  have HPP := Lib.hid hP
  obtain ⟨A, cap, hv⟩ := hP.slice
  obtain ⟨nv, hnv⟩ : ∃ n, m.length = n := ⟨_, rfl⟩
  rw [hnv] at hv
  subst hv
  by_cases hbad : n < 1 ∨ 8 < n ∨ rightB m = false
  · have HE : numErr m a n 2 = 1 := by simp [numErr, hbad]
    have HV : storeM m a n x = m := by simp [storeM, HE]
    rw [HE, HV]
    obtain ⟨r, hr⟩ : ∃ r, rightB m = r := ⟨_, rfl⟩
    rw [hr] at HQ hbad
    clear hP hw HE HV hnv hr
    by_cases c1 : n < 1
    · have t1 : decide (n < 1) = true := by simpa using c1
      clear hbad
      go_enter Tryd.func28, Tryd.ntmps28
      go_wp2_with fail
      refine HQ.out.mono ?_
      rintro e w1 ⟨rfl, hb1⟩
      have HB1 := Lib.hid hb1
      clear hb1
      go_wp2_with fail
      go_ret2
      exact ⟨_, rfl, HPP.out.next HB1.out, HB1.out⟩
    · have t1 : decide (n < 1) = false := by simpa using c1
      by_cases c2 : 8 < n
      · have t2 : decide (8 < n) = true := by simpa using c2
        clear hbad
        go_enter Tryd.func28, Tryd.ntmps28
        go_wp2_with fail
        refine HQ.out.mono ?_
        rintro e w1 ⟨rfl, hb1⟩
        have HB1 := Lib.hid hb1
        clear hb1
        go_wp2_with fail
        go_ret2
        exact ⟨_, rfl, HPP.out.next HB1.out, HB1.out⟩
      · have t2 : decide (8 < n) = false := by simpa using c2
        obtain rfl : r = false := by rcases hbad with h | h | h; omega; omega; exact h
        clear hbad
        go_enter Tryd.func28, Tryd.ntmps28
        go_wp2_with fail
        refine HQ.out.mono ?_
        rintro e w1 ⟨rfl, hb1⟩
        have HB1 := Lib.hid hb1
        clear hb1
        go_wp2_with fail
        go_ret2
        exact ⟨_, rfl, HPP.out.next HB1.out, HB1.out⟩
  · have hr : rightB m = true := by cases h : rightB m; exact absurd (.inr (.inr h)) hbad; rfl
    have b1 : 1 ≤ n := by omega
    have b8 : n ≤ 8 := by omega
    clear hbad
    have hR := Right.of hr hw.a0 hw.a1
    obtain ⟨N, rfl⟩ := Int.eq_ofNat_of_zero_le (show 0 ≤ n by omega)
    obtain ⟨g0, g6⟩ := store_all (x := x) hr a0 (show 1 ≤ N by omega) (show N ≤ 8 by omega)
    have HA := Lib.hid (fun (W : World) (hb : Below w.heap.size w W) (t : Int) (t0 : 0 ≤ t) (t1 : t ≤ 18446744073709551615) => refAt_any t (hP.next hb) hR t0 t1)
    have HI := Lib.hid (fun (t : Int) (ht : M.there m t = true) => there_row hP hR ht)
    have HN := Lib.hid hnv
    have HRR := Lib.hid hR
    have HL0 := Lib.hid (show laid m a (M.lowest x 0) = m from laid_none hR a)
    rw [hr] at HQ
    obtain ⟨E, hE⟩ : ∃ E, numErr m a N 2 = E := ⟨_, rfl⟩
    obtain ⟨S, hS⟩ : ∃ S, storeM m a N x = S := ⟨_, rfl⟩
    rw [hE, hS] at g0 g6 ⊢
    have G0 := Lib.hid g0
    have G6 := Lib.hid g6
    have t1 : decide ((N : Int) < 1) = false := by simp; omega
    have t2 : decide (8 < (N : Int)) = false := by simp; omega
    clear hP hw hR hr hnv hE hS g0 g6
    go_enter Tryd.func28, Tryd.ntmps28
    go_wp2_with fail
    refine HQ.out.mono ?_
    rintro e w1 ⟨rfl, hb1⟩
    have HB1 := Lib.hid hb1
    clear hb1
    go_wp2_with fail
    clear t1 t2
    go_loopw [3, 11, 12] (fun y o i wr => ∃ k : Nat, k ≤ N ∧ i = .int .i64 k ∧ y = .int .u64 ((x / 256 ^ k : Nat) : Int) ∧ (∃ A' cap', o = .slice A' nv cap' ∧ Pages wr (.slice A' nv cap') (laid m a (M.lowest x k))) ∧ (∀ j : Nat, j < k → placeB m (a + j) 2 = true) ∧ Below w.heap.size w wr) (fun _ _ i _ => N - (intOf i).toNat)
    case atStart => exact ⟨0, Nat.zero_le _, rfl, by simp, ⟨_, _, rfl, by rw [HL0.out]; exact HPP.out.next HB1.out⟩, fun j h => absurd h (Nat.not_lt_zero _), HB1.out⟩
    case round =>
      obtain ⟨k, hk, rfl, rfl, ⟨A', cap', rfl, ho⟩, hpl, hb⟩ := hrel
      have HB := Lib.hid hb
      have HPL := Lib.hid hpl
      have HO := Lib.hid ho
      clear hb hpl ho
      by_cases hlt : k < N
      · obtain ⟨Y, hY⟩ : ∃ Y, x / 256 ^ k = Y := ⟨_, rfl⟩
        have hY1 : Y < 18446744073709551616 := by rw [← hY]; exact Nat.lt_of_le_of_lt (Nat.div_le_self _ _) hx
        have hYN : x / 256 ^ (k + 1) = Y / 256 := by rw [Nat.pow_succ, ← Nat.div_div_eq_div_mul, hY]
        have wk : IntKind.u64.wrap (k : Int) = (k : Int) := by rw [IntKind.wrap_u64]; omega
        have lk : ((k : Int) < (N : Int)) := by omega
        by_cases hov : a + (k : Int) ≤ 18446744073709551615
        · have wt : IntKind.u64.wrap (a + (k : Int)) = a + (k : Int) := by rw [IntKind.wrap_u64]; omega
          have lt : decide (a + (k : Int) < a) = false := by simp; omega
          have HC := Lib.hid (HA.out wr HB.out (a + k) (by omega) hov)
          cases hc : M.there m (a + (k : Int) - (a + (k : Int)) % 256)
          · have hA : atI m (a + k) = -1 := by unfold atI; rw [hc]; rfl
            rw [hA] at HC
            have HF := Lib.hid (G6.out ⟨k, hlt, by unfold placeB grantB; rw [hc]; simp⟩)
            rw [hY]
            clear hY hYN hA hc
            go_wp2_with fail
            refine HC.out.mono ?_
            rintro e w2 ⟨rfl, rfl⟩
            go_wp2_with fail
            go_ret2
            exact ⟨_, by rw [HF.out.1]; rfl, by rw [HF.out.2]; exact HPP.out.next HB.out, HB.out⟩
          · obtain ⟨b, off, rfl, hPI, hi, he⟩ := HI.out _ hc
            have hA : atI m (a + k) = M.low m (a + (k : Int) - (a + (k : Int)) % 256) := by unfold atI; rw [hc]; rfl
            rw [hA] at HC
            have hgr : placeB m (a + k) 2 = okBits (m[M.low m (a + (k : Int) - (a + (k : Int)) % 256)]).p 2 := by
              unfold placeB grantB
              rw [hc, List.getElem?_eq_getElem hi]
              simp [hov]
            have HPU := Lib.hid (fun (W : World) (o : Value) (hO : Pages W o (laid m a (M.lowest x k))) => refPut_any (a + k) (Y % 256) hO (laid_right HRR.out a _) (by omega) hov (by rw [laid_there]; exact hc) (Nat.mod_lt _ (by omega)))
            rw [← hY, laid_next, hY] at HPU
            obtain ⟨i, hie⟩ : ∃ i, M.low m (a + (k : Int) - (a + (k : Int)) % 256) = i := ⟨_, rfl⟩
            have G := Lib.hid (fun W => refGrants_any m[M.low m (a + (k : Int) - (a + (k : Int)) % 256)] 2 W)
            simp only [hie] at hi he hgr G HC
            have HPI := Lib.hid hPI
            have cells := (fun (W : World) (hb : Below w.heap.size w W) => (HPI.out.next hb).2 i hi)
            obtain ⟨pa, hpa⟩ : ∃ x, (m[i]).a = x := ⟨_, rfl⟩
            obtain ⟨pp, hpp⟩ : ∃ x, (m[i]).p = x := ⟨_, rfl⟩
            obtain ⟨pd, hpd⟩ : ∃ x, (m[i]).d = x := ⟨_, rfl⟩
            simp only [hpa, hpp, hpd] at cells G he hgr
            have HCE := Lib.hid cells
            have il : i < nv := by have := HN.out; omega
            have i0 : (0 : Int) ≤ (i : Int) := Int.natCast_nonneg _
            have i1 : (i : Int) < (nv : Int) := by omega
            have i2 : decide ((i : Int) < 0) = false := by simp
            have HGR := Lib.hid hgr
            obtain ⟨e0, e1, e2⟩ := HCE.out _ HB.out
            have HYN := Lib.hid hYN
            rw [hY]
            clear hPI cells hpa hpp hpd hgr he hA hie hc hYN hY
            cases hq : okBits pp 2
            · have HQ6 := Lib.hid (G6.out ⟨k, hlt, by rw [HGR.out, hq]⟩)
              rw [hq] at G
              clear hq
              go_wp2_with fail
              refine HC.out.mono ?_
              rintro e w2 ⟨rfl, rfl⟩
              go_wp2_with fail
              refine (G.out _).mono ?_
              rintro e w3 ⟨rfl, hb3⟩
              have HB3 := Lib.hid (bthen HB.out hb3)
              clear hb3
              go_wp2_with fail
              go_ret2
              exact ⟨_, by rw [HQ6.out.1]; rfl, by rw [HQ6.out.2]; exact HPP.out.next HB3.out, HB3.out⟩
            · rw [hq] at G
              have HNX := Lib.hid (fun (j : Nat) (hj : j < k + 1) => (show placeB m (a + j) 2 = true from by
                by_cases e : j = k
                · subst e; rw [HGR.out]; exact hq
                · exact HPL.out j (by omega)))
              have m3 : Int.tmod (Y : Int) 256 = ((Y % 256 : Nat) : Int) := by rw [Int.tmod_eq_emod_of_nonneg (by omega)]; rfl
              have m3' : (Y : Int) % 256 = ((Y % 256 : Nat) : Int) := rfl
              have m4 : Int.tdiv (Y : Int) 256 = ((Y / 256 : Nat) : Int) := by rw [Int.tdiv_eq_ediv_of_nonneg (by omega)]; rfl
              have m4' : (Y : Int) / 256 = ((Y / 256 : Nat) : Int) := rfl
              have w8 : IntKind.u8.wrap ((Y % 256 : Nat) : Int) = ((Y % 256 : Nat) : Int) := by rw [IntKind.wrap_u8]; omega
              have w9 : IntKind.u64.wrap ((Y / 256 : Nat) : Int) = ((Y / 256 : Nat) : Int) := by rw [IntKind.wrap_u64]; omega
              obtain ⟨Z, hZ⟩ : ∃ Z, Y % 256 = Z := ⟨_, rfl⟩
              obtain ⟨Q, hQ⟩ : ∃ Z, Y / 256 = Z := ⟨_, rfl⟩
              rw [hZ] at m3 m3' w8 HPU
              rw [hQ] at m4 m4' w9 HYN
              clear hq hZ hQ
              go_wp2_with fail
              refine HC.out.mono ?_
              rintro e w2 ⟨rfl, rfl⟩
              go_wp2_with fail
              refine (G.out _).mono ?_
              rintro e w3 ⟨rfl, hb3⟩
              have HB3 := Lib.hid (bthen HB.out hb3)
              have HO3 := Lib.hid (HO.out.next hb3)
              clear hb3 e0 e1 e2
              go_wp2_with fail
              refine (HPU.out _ _ HO3.out).mono ?_
              intro e w4 hnew
              obtain ⟨A4, cap4, rfl, hp4, hb4⟩ := new_pages hnew HB3.out nv (by rw [laid_length]; exact HN.out)
              have HP4 := Lib.hid hp4
              have HB4 := Lib.hid hb4
              clear hnew hp4 hb4
              go_wp2_with fail
              go_roundw
              case rel => exact ⟨k + 1, by omega, by go_num, by rw [HYN.out], ⟨_, _, rfl, HP4.out⟩, HNX.out, HB4.out⟩
              case measure => simp [intOf]; omega
        · have HQ6 := Lib.hid (G6.out ⟨k, hlt, by unfold placeB; simp [hov]⟩)
          have wt : IntKind.u64.wrap (a + (k : Int)) = a + (k : Int) - 18446744073709551616 := by rw [IntKind.wrap_u64]; omega
          have lt : decide (a + (k : Int) - 18446744073709551616 < a) = true := by simp; omega
          have HC := Lib.hid (HA.out wr HB.out (a + k - 18446744073709551616) (by omega) (by omega))
          obtain ⟨z, hz⟩ : ∃ z, atI m (a + k - 18446744073709551616) = z := ⟨_, rfl⟩
          rw [hz] at HC
          rw [hY]
          clear hz hY hYN
          by_cases hz0 : z < 0
          all_goals
            go_wp2_with fail
            refine HC.out.mono ?_
            rintro e w2 ⟨rfl, rfl⟩
            go_wp2_with fail
            go_ret2
            exact ⟨_, by rw [HQ6.out.1]; rfl, by rw [HQ6.out.2]; exact HPP.out.next HB.out, HB.out⟩
      · obtain rfl : k = N := by omega
        have HQ0 := Lib.hid (G0.out HPL.out)
        obtain ⟨Y, hY⟩ : ∃ Y, x / 256 ^ k = Y := ⟨_, rfl⟩
        rw [hY]
        clear hY
        go_wp2_with fail
        go_ret2
        exact ⟨_, by rw [HQ0.out.1]; rfl, by rw [HQ0.out.2]; exact HO.out, HB.out⟩
end Go.Proofs.YtclbkdnihhmglaaDoor
