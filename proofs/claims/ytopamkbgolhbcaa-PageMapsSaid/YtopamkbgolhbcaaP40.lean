/- The reference's put: memory with one byte. -/
import Derived.Test.YtopamkbgolhbcaaP39
import Derived.Outline
namespace Go.Proofs.Ytopamkbgolhbcaa
open Go.RowKit Go.Shelf

attribute [local go_sem] Oper.semAt_some

theorem set_same {α : Type} {l : List α} {k : Nat} {a : α} (h : l[k]? = some a) : l.set k a = l := by
  apply List.ext_getElem?
  intro j
  by_cases e : j = k
  · subst e
    rw [List.getElem?_set_self (List.getElem?_eq_some_iff.1 h).1, h]
  · rw [List.getElem?_set_ne (by omega)]
theorem OwnsP.putD {W : World} {base g n cap : Nat} {m : List M.Pg} (h : OwnsP W base (.slice (some ⟨g, 0, none⟩) n cap) m) (hn : m.length = n) (i : Nat) (d : ByteArray) (hi : i < m.length) :
    OwnsP (W.setCell ⟨g, i * 3 + 2, none⟩ (.string d)) base (.slice (some ⟨g, 0, none⟩) n cap) (m.set i ⟨m[i].a, m[i].p, d⟩) := by
  subst hn
  have h' : W.ownsRow base 67 3 (.slice (some ⟨g, 0, none⟩) m.length cap) m.length (cellsOf m) := h
  rcases h'.2 with ⟨e, _⟩ | ⟨g', cap', cur, e, hb, hg, h1, h2, h3, h4⟩
  · cases e
  · cases e
    have e3 := Whole.put (show Whole W g 67 cur from hg) (i * 3 + 2) (.string d)
    obtain ⟨k0, k1, k2⟩ := cellsOf_at m i hi
    refine ⟨?_, .inr ⟨g, cap, _, ?_, hb, e3, ?_, h2, ?_, ?_⟩⟩
    · rw [cellsOf_length]
    · rw [List.length_set]
    · rw [List.length_set]; exact h1
    · simp [h3]
    · rw [List.length_set, cellsOf_set m i _ hi, ← h4]
      rw [← h4] at k0 k1
      simp only [Array.toList_setIfInBounds, List.take_set]
      rw [set_same k0, set_same k1]
theorem grownBy_alloc (W : World) (o : Obj) : W.grownBy (W.alloc o) none := ⟨rfl, rfl, rfl, by simp, fun k hk _ => Below.heap_alloc _ _ _ hk⟩
/-- the row of bytes that a string's bytes are copied into -/
def rowOf (W : World) (d : ByteArray) : Obj := .cells (bytesRow d (grownCap W d.size 0 5)) 5 ((bytesRow d (grownCap W d.size 0 5)).size, (bytesRow d (grownCap W d.size 0 5)).size + 1)
theorem rowOf_cells (W : World) (d : ByteArray) : bytesRow d (grownCap W d.size 0 5) = (Lib.byteCells d.data.toList ++ List.replicate (grownCap W d.size 0 5 - d.size) (Value.int .u8 0)).toArray := by
  simp [bytesRow, Lib.byteCells]
theorem rowOf_cell (W : World) (d : ByteArray) {q : Nat} (hq : q < d.size) : (W.alloc (rowOf W d)).cell? ⟨W.heap.size, q, none⟩ = some (.int .u8 ((d[q]).toNat : Int)) := by
  rw [cell_of_row _ _ q _ _ _ (heap_alloc_new W (rowOf W d)), rowOf_cells, List.getElem?_toArray, List.getElem?_append_left (by rw [Lib.byteCells_length, ← Lib.size_eq]; omega)]
  have hq2 : q < d.data.toList.length := by rw [← Lib.size_eq]; omega
  simp only [Lib.byteCells, List.getElem?_map, List.getElem?_eq_getElem hq2]
  rfl
theorem rowOf_free (W : World) (d : ByteArray) {q : Nat} (hq : q < d.size) : (W.alloc (rowOf W d)).frozen? ⟨W.heap.size, q, none⟩ = false := by
  unfold World.frozen?
  rw [heap_alloc_new W (rowOf W d)]
  have h : q < (bytesRow d (grownCap W d.size 0 5)).size := by
    rw [rowOf_cells, List.size_toArray, List.length_append, Lib.byteCells_length, ← Lib.size_eq]; omega
  simp only [rowOf]
  simp
  omega
/-- back to a string, behind one byte's writing -/
theorem rowOf_back (W : World) (d : ByteArray) {q : Nat} (hq : q < d.size) (b : UInt8) :
    (convert 76 9 (.slice (some ⟨W.heap.size, 0, none⟩) d.size (grownCap W d.size 0 5))).run Try.prog ((W.alloc (rowOf W d)).setCell ⟨W.heap.size, q, none⟩ (.int .u8 (b.toNat : Int))).drew =
      .ok (.string ⟨d.data.set! q b⟩) ((W.alloc (rowOf W d)).setCell ⟨W.heap.size, q, none⟩ (.int .u8 (b.toNat : Int))).drew := by
  have hnew := heap_alloc_new W (rowOf W d)
  generalize hV : W.alloc (rowOf W d) = V at *
  have hg : (V.setCell ⟨W.heap.size, q, none⟩ (.int .u8 (b.toNat : Int))).drew.heap[W.heap.size]? = some (.cells ((bytesRow d (grownCap W d.size 0 5)).setIfInBounds q (.int .u8 (b.toNat : Int))) 5 ((bytesRow d (grownCap W d.size 0 5)).size, (bytesRow d (grownCap W d.size 0 5)).size + 1)) := by
    show (V.setCell ⟨W.heap.size, q, none⟩ (.int .u8 (b.toNat : Int))).heap[W.heap.size]? = _
    simp [World.setCell, Array.getElem?_modify, hnew, rowOf]
  have hd : (d.data.set! q b).toList = d.data.toList.set q b := by rw [Array.set!_eq_setIfInBounds, Array.toList_setIfInBounds]
  have h := run_convert_bytes_arg (V.setCell ⟨W.heap.size, q, none⟩ (.int .u8 (b.toNat : Int))).drew 76 5 Try.underlying76 Try.underlying5 W.heap.size 0 d.size (grownCap W d.size 0 5) ((d.data.set! q b).toList.map (fun b => (b.toNat : Int))) (by rw [List.length_map, hd, List.length_set, ← Lib.size_eq]) (fun i hi => by
    rw [Nat.zero_add, cell_of_row _ _ i _ _ _ hg, rowOf_cells, hd, ← Array.getElem?_toList, Array.toList_setIfInBounds]
    have hl : d.data.toList.length = d.size := by rw [← Lib.size_eq]
    by_cases e : i = q
    · subst e
      rw [List.getElem?_set_self (by simp [Lib.byteCells_length, hl]; omega), List.getD_eq_getElem?_getD, List.getElem?_map, List.getElem?_set_self (by omega)]
      rfl
    · rw [List.getElem?_set_ne (by omega), List.getD_eq_getElem?_getD, List.getElem?_map, List.getElem?_set_ne (by omega)]
      simp only
      rw [List.getElem?_append_left (by rw [Lib.byteCells_length]; omega)]
      simp only [Lib.byteCells, List.getElem?_map, List.getElem?_eq_getElem (show i < d.data.toList.length by omega)]
      rfl) 9 Try.underlying9
  rw [h]
  have e : (d.data.toList.set q b).toArray = d.data.setIfInBounds q b := by
    apply Array.ext'
    rw [Array.toList_setIfInBounds]
  simp [strOfNums, Function.comp_def, e]

set_option maxRecDepth 100000 in
set_option maxHeartbeats 4000000 in
theorem refPut_any {m : List M.Pg} {v : Value} (t : Int) (b : Nat) {w : World} (hP : Pages w v m) (hR : M.Right m) (t0 : 0 ≤ t) (t1 : t ≤ 18446744073709551615) (ht : M.there m (t - t % 256) = true) (hb : b < 256) :
    Calls Try.prog 47 #[v, .int .u64 t, .int .u8 b] w (NewPages (laid m t [UInt8.ofNat b]) w) := by
  have HA := Lib.hid (refAt_any t hP hR t0 t1)
  obtain ⟨hi, he⟩ := (M.there_iff hR.up _).1 ht
  obtain ⟨i, hie⟩ : ∃ i, M.low m (t - t % 256) = i := ⟨_, rfl⟩
  have hA : atI m t = i := by unfold atI; rw [ht, hie]; rfl
  rw [hA] at HA
  simp only [hie] at hi he
  have HL := Lib.hid (laid_one hR ht hi hie (UInt8.ofNat b))
  have hsz := hR.size hi
  have hml := hR.len
  have O0 := fun W : World => Lib.hid (show OwnsP (W.alloc (.cells #[] 67)) W.heap.size (.slice (some ⟨W.heap.size, 0, none⟩) 0 0) [] from ⟨rfl, .inr ⟨W.heap.size, 0, #[], rfl, Nat.le_refl _, heap_alloc_new _ _, Nat.le_refl _, by unfold maxLen; omega, rfl, rfl⟩⟩)
  have HP := Lib.hid (hP.next (balloc (Below.refl _ w) (.cells #[] 67)))
  obtain ⟨A, cap, hv⟩ := hP.slice
  obtain ⟨n, hn⟩ : ∃ n, m.length = n := ⟨_, rfl⟩
  have hin : i < n := by omega
  rw [hn] at hv
  subst hv
  have HN := Lib.hid hn
  obtain ⟨⟨qa, qp, d⟩, hq⟩ : ∃ q, m[i] = q := ⟨_, rfl⟩
  have HQ := Lib.hid hq
  rw [hq] at he hsz HL
  simp only at he hsz HL
  have HI := Lib.hid hi
  have H0 := O0 w
  have HML := Lib.hid hml
  have HE := Lib.hid he
  have HSZ := Lib.hid hsz
  clear hP hR hA hie hn hq ht O0 hml he hsz
  go_enter Try.func47, Try.ntmps47
  go_wp2_with fail
  refine HA.out.mono ?_
  rintro e w1 ⟨rfl, rfl⟩
  have i0 : (0 : Int) ≤ (i : Int) := Int.natCast_nonneg _
  have i1 : (i : Int) < (n : Int) := by omega
  have hcv : ∀ W : World, (convert 9 76 (.string d)).run Try.prog W = .ok (.slice (some ⟨W.heap.size, 0, none⟩) d.size (grownCap W d.size 0 5)) (W.drew.alloc (rowOf W d)) := fun W => run_bytes_of_string W _ _ _ d Try.underlying9 Try.underlying76 Try.underlying5
  obtain ⟨q, hqe⟩ := Int.eq_ofNat_of_zero_le (show 0 ≤ t % 256 by omega)
  have hq2 : IntKind.u64.wrap (t - qa) = (q : Int) := by rw [HE.out, IntKind.wrap_u64]; omega
  have HQE := Lib.hid hqe
  have hqd : q < d.size := by rw [HSZ.out]; omega
  have hc := fun W => rowOf_cell W d hqd
  have hf := fun W => rowOf_free W d hqd
  have hk := fun W => rowOf_back W d hqd (UInt8.ofNat b)
  rw [show (UInt8.ofNat b).toNat = b by simp; omega] at hk
  clear hqe
  go_wp2_with ((
    at_builtin
    refine wpList_append_pages rfl _ _ rfl w.heap.size _ [] m rfl H0.out _ rfl HP.out (by have := HML.out; have h : ([] : List M.Pg).length = 0 := rfl; omega) (by simp) ?_
    intro v' w1 hown hgrow
    have HB := Lib.hid ((balloc (Below.refl _ w) _).grown hgrow (by simp) (fun k hk => by cases hk; exact Nat.le_refl _))
    rw [List.nil_append] at hown
    have hown' : w1.ownsRow w.heap.size 67 3 v' m.length (cellsOf m) := hown
    obtain ⟨g, cp, rfl, hg0, hg⟩ := hown'.form (by have := HI.out; omega)
    have HG0 := Lib.hid hg0
    rw [HN.out] at hown
    obtain ⟨cur, hcur, e0, e1, e2⟩ := hown.at_ i HI.out
    rw [HQ.out] at e0 e1 e2
    simp only at e0 e1 e2
    rw [HN.out]
    have HOW := Lib.hid hown
    have ff := hcur.free (i * 3 + 2)
    clear hown hown' hgrow hcur hg0))
  go_ret
  have hB3 : Below w.heap.size w (w1.alloc (rowOf w1 d)) := bthen HB.out (balloc (Below.refl _ _) _)
  have hB4 := hB3.setCell (p := ⟨w1.heap.size, q, none⟩) (by have := HB.out.size; simpa using this) (.int .u8 (b : Int))
  have hB5 := hB4.setCell (p := ⟨g, i * 3 + 2, none⟩) HG0.out (.string ⟨d.data.setIfInBounds q (UInt8.ofNat b)⟩)
  refine ⟨_, rfl, ?_, hB5.drew⟩
  rw [HL.out, HQE.out, show ((q : Int)).toNat = q by omega, Array.set!_eq_setIfInBounds]
  have o1 : OwnsP (w1.alloc (rowOf w1 d)) w.heap.size (.slice (some ⟨g, 0, none⟩) n cp) m := ownsP_kept (row := none) HOW.out (grownBy_alloc w1 _) (.inr (fun e => by cases e))
  have o2 := ownsP_kept o1 (grownBy_put (w1.alloc (rowOf w1 d)) w1.heap.size q (.int .u8 (b : Int))) (.inr (fun e => by have h : g = w1.heap.size := Option.some.inj e; omega))
  have o3 := o2.putD HN.out i ⟨d.data.setIfInBounds q (UInt8.ofNat b)⟩ HI.out
  rw [HQ.out] at o3
  exact o3
end Go.Proofs.Ytopamkbgolhbcaa
