/- What the texts of package resolve stand on, of the packages ir and pick (part 6). -/
import Derived.Test.YtpifndpbmjmglaaHE4
namespace Go.Proofs.Ytpifndpbmjmglaa
open Go.RowKit
attribute [local go_sem] Oper.semAt_some
/-- is there a page at a place, and does it grant perm? -/
def placeB (m : List M.Pg) (t perm : Int) : Bool := decide (t ≤ 18446744073709551615) && grantB m (t - t % 256) perm
theorem all_places {m : List M.Pg} {a perm : Int} {N : Nat} (a0 : 0 ≤ a) (h1 : 1 ≤ N) : allGrantB m a N perm = true ↔ ∀ j : Nat, j < N → placeB m (a + j) perm = true := by
  simp only [allGrantB, placeB, Bool.and_eq_true, Bool.not_eq_true', List.all_eq_true, decide_eq_true_eq]
  constructor
  · rintro ⟨hb, hg⟩ j hj
    have hb' : a + ((N : Int) - 1) ≤ 18446744073709551615 := by simp [beyondB] at hb; omega
    obtain ⟨s, hs, e, _, _⟩ := M.strs_has a0 (n := (N : Int)) (a + j) (by omega) (by omega)
    have h := hg s hs
    rw [e] at h
    exact ⟨by omega, h⟩
  · intro h
    have hl := (h (N - 1) (by omega)).1
    refine ⟨by simp [beyondB]; omega, fun s hs => ?_⟩
    obtain ⟨ho, h2, h3⟩ := M.strs_ok a0 (by omega) s hs
    obtain ⟨j, hj⟩ := Int.eq_ofNat_of_zero_le (show 0 ≤ s.pg + s.f - a by omega)
    have k1 := ho.n1
    have k2 := ho.f0
    have k3 := ho.fn
    have k4 := ho.md
    have h4 := (h j (by omega)).2
    have e : a + (j : Int) - (a + j) % 256 = s.pg := by omega
    rw [e] at h4
    exact h4
end Go.Proofs.Ytpifndpbmjmglaa
namespace Go.Proofs.Ytpifndpbmjmglaa
open Go.RowKit
theorem over_get (x : M.Pg) (a : Int) (l : List UInt8) {j : Nat} (hj : j < 256) : (over x a l).d.data.toList.getD j 0 = if a ≤ x.a + j ∧ x.a + j < a + l.length then l.getD (x.a + j - a).toNat 0 else x.d.data.toList.getD j 0 := by
  have : (over x a l).d.data.toList = (List.range 256).map (fun (j : Nat) => if a ≤ x.a + j ∧ x.a + j < a + l.length then l.getD (x.a + j - a).toNat 0 else x.d.data.toList.getD j 0) := by simp [over]
  rw [this, List.getD_eq_getElem?_getD, List.getElem?_map, List.getElem?_range hj]
  rfl
theorem over_snoc (x : M.Pg) (a : Int) (l : List UInt8) (b : UInt8) : over (over x a l) (a + l.length) [b] = over x a (l ++ [b]) := by
  have e : ∀ (d : ByteArray), over { x with d := d } (a + l.length) [b] = { x with d := ⟨((List.range 256).map (fun (j : Nat) => if a + l.length ≤ x.a + j ∧ x.a + j < a + l.length + ([b] : List UInt8).length then ([b] : List UInt8).getD (x.a + j - (a + l.length)).toNat 0 else d.data.toList.getD j 0)).toArray⟩ } := fun d => rfl
  have e1 : over (over x a l) (a + l.length) [b] = _ := e (over x a l).d
  rw [e1]
  unfold over
  congr 3
  apply List.map_congr_left
  intro j hj
  have hj' := List.mem_range.1 hj
  have := over_get x a l hj'
  unfold over at this
  rw [this, List.length_append, List.length_singleton]
  by_cases h1 : a + l.length ≤ x.a + j ∧ x.a + j < a + l.length + (1 : Nat)
  · rw [if_pos h1, if_pos (by omega), show (x.a + (j : Int) - (a + l.length)).toNat = 0 by omega, show (x.a + (j : Int) - a).toNat = l.length by omega]
    simp
  · rw [if_neg h1]
    by_cases h2 : a ≤ x.a + j ∧ x.a + j < a + l.length
    · rw [if_pos h2, if_pos (by omega), List.getD_eq_getElem?_getD, List.getD_eq_getElem?_getD, List.getElem?_append_left (by omega)]
    · rw [if_neg h2, if_neg (by omega)]
theorem laid_snoc (m : List M.Pg) (a : Int) (l : List UInt8) (b : UInt8) : laid (laid m a l) (a + l.length) [b] = laid m a (l ++ [b]) := by
  unfold laid
  rw [List.map_map]
  exact List.map_congr_left (fun x _ => over_snoc x a l b)
theorem laid_none {m : List M.Pg} (hR : M.Right m) (a : Int) : laid m a [] = m := by
  unfold laid
  conv => rhs; rw [← List.map_id m]
  apply List.map_congr_left
  intro x hx
  obtain ⟨i, hi, rfl⟩ := List.mem_iff_getElem.1 hx
  exact over_out (hR.size hi) (fun j _ h => by simp at h; omega)
/-- one byte laid: one page's one byte -/
theorem laid_one {m : List M.Pg} (hR : M.Right m) {t : Int} (ht : M.there m (t - t % 256) = true) {i : Nat} (hi : i < m.length) (he : M.low m (t - t % 256) = i) (b : UInt8) :
    laid m t [b] = m.set i ⟨(m[i]).a, (m[i]).p, ⟨(m[i]).d.data.set! (t % 256).toNat b⟩⟩ := by
  obtain ⟨h1, h2⟩ := (M.there_iff hR.up _).1 ht
  subst he
  apply List.ext_getElem?
  intro k
  rw [laid_get]
  by_cases hk : k < m.length
  · rw [List.getElem?_eq_getElem hk]
    show some (over m[k] t [b]) = _
    by_cases e : k = M.low m (t - t % 256)
    · subst e
      rw [List.getElem?_set_self hk]
      congr 1
      have hs := hR.size hk
      obtain ⟨x, hx⟩ : ∃ x, m[M.low m (t - t % 256)] = x := ⟨_, rfl⟩
      rw [hx] at hs h2 ⊢
      obtain ⟨xa, xp, ⟨xd⟩⟩ := x
      have hxd : xd.size = 256 := hs
      simp only at h2
      unfold over
      congr 2
      apply Array.ext'
      apply List.ext_getElem?
      intro j
      by_cases hj : j < 256
      · rw [show (((List.range 256).map (fun (j : Nat) => if t ≤ xa + j ∧ xa + j < t + ([b] : List UInt8).length then ([b] : List UInt8).getD (xa + j - t).toNat 0 else xd.toList.getD j 0)).toArray.toList)[j]? = some (if t ≤ xa + j ∧ xa + j < t + ([b] : List UInt8).length then ([b] : List UInt8).getD (xa + j - t).toNat 0 else xd.toList.getD j 0) by simp [hj]]
        rw [Array.set!_eq_setIfInBounds, Array.toList_setIfInBounds, List.length_singleton]
        by_cases hjt : j = (t % 256).toNat
        · subst hjt
          rw [if_pos (by omega), List.getElem?_set_self (by simp; omega), show (xa + ((t % 256).toNat : Int) - t).toNat = 0 by omega]
          rfl
        · rw [if_neg (by omega), List.getElem?_set_ne (by omega), List.getD_eq_getElem?_getD, List.getElem?_eq_getElem (by simp; omega)]
          rfl
      · rw [List.getElem?_eq_none (by simp; omega), List.getElem?_eq_none (by simp; omega)]
    · rw [List.getElem?_set_ne (by omega), List.getElem?_eq_getElem hk]
      congr 1
      refine over_out (hR.size hk) (fun j hj h => ?_)
      simp only [List.length_singleton] at h
      have hm := hR.at_mod hk
      have e2 : m[k].a = t - t % 256 := by omega
      rcases Nat.lt_trichotomy k (M.low m (t - t % 256)) with hlt | he | hgt
      · have := hR.at_lt hlt h1; omega
      · exact e he
      · have := hR.at_lt hgt hk; omega
  · rw [List.getElem?_eq_none (by omega), List.getElem?_eq_none (by simp; omega)]
    rfl
end Go.Proofs.Ytpifndpbmjmglaa
namespace Go.Proofs.Ytpifndpbmjmglaa
open Go.RowKit Go.Shelf
attribute [local go_sem] Oper.semAt_some
theorem set_same {α : Type} {l : List α} {k : Nat} {a : α} (h : l[k]? = some a) : l.set k a = l := by
  apply List.ext_getElem?
  intro j
  by_cases e : j = k
  · subst e
    rw [List.getElem?_set_self (List.getElem?_eq_some_iff.1 h).1, h]
  · rw [List.getElem?_set_ne (by omega)]
theorem OwnsP.putD {W : World} {base g n cap : Nat} {m : List M.Pg} (h : OwnsP W base (.slice (some ⟨g, 0, none⟩) n cap) m) (hn : m.length = n) (i : Nat) (d : ByteArray) (hi : i < m.length) :
    OwnsP (W.setCell ⟨g, i * 3 + 2, none⟩ (.string d)) base (.slice (some ⟨g, 0, none⟩) n cap) (m.set i ⟨m[i].a, m[i].p, d⟩) := by
  subst hn
  have h' : W.ownsRow base 70 3 (.slice (some ⟨g, 0, none⟩) m.length cap) m.length (cellsOf m) := h
  rcases h'.2 with ⟨e, _⟩ | ⟨g', cap', cur, e, hb, hg, h1, h2, h3, h4⟩
  · cases e
  · cases e
    have e3 := Whole.put (show Whole W g 70 cur from hg) (i * 3 + 2) (.string d)
    obtain ⟨k0, k1, k2⟩ := cellsOf_at m i hi
    refine ⟨?_, .inr ⟨g, cap, _, ?_, hb, e3, ?_, h2, ?_, ?_⟩⟩
    · rw [cellsOf_length]
    · rw [List.length_set]
    · rw [List.length_set]; exact h1
    · simp [h3]
    · rw [List.length_set, cellsOf_set m i _ hi, ← h4]
      rw [← h4] at k0 k1
      simp only [Array.toList_setIfInBounds, List.take_set]
      rw [set_same k0, set_same k1]
theorem grownBy_alloc (W : World) (o : Obj) : W.grownBy (W.alloc o) none := ⟨rfl, rfl, rfl, by simp, fun k hk _ => Below.heap_alloc _ _ _ hk⟩
/-- the row of bytes that a string's bytes are copied into -/
def rowOf (W : World) (d : ByteArray) : Obj := .cells (bytesRow d (grownCap W d.size 0 5)) 5 ((bytesRow d (grownCap W d.size 0 5)).size, (bytesRow d (grownCap W d.size 0 5)).size + 1)
theorem rowOf_cells (W : World) (d : ByteArray) : bytesRow d (grownCap W d.size 0 5) = (Lib.byteCells d.data.toList ++ List.replicate (grownCap W d.size 0 5 - d.size) (Value.int .u8 0)).toArray := by
  simp [bytesRow, Lib.byteCells]
theorem rowOf_cell (W : World) (d : ByteArray) {q : Nat} (hq : q < d.size) : (W.alloc (rowOf W d)).cell? ⟨W.heap.size, q, none⟩ = some (.int .u8 ((d[q]).toNat : Int)) := by
  rw [cell_of_row _ _ q _ _ _ (heap_alloc_new W (rowOf W d)), rowOf_cells, List.getElem?_toArray, List.getElem?_append_left (by rw [Lib.byteCells_length, ← Lib.size_eq]; omega)]
  have hq2 : q < d.data.toList.length := by rw [← Lib.size_eq]; omega
  simp only [Lib.byteCells, List.getElem?_map, List.getElem?_eq_getElem hq2]
  rfl
theorem rowOf_free (W : World) (d : ByteArray) {q : Nat} (hq : q < d.size) : (W.alloc (rowOf W d)).frozen? ⟨W.heap.size, q, none⟩ = false := by
  unfold World.frozen?
  rw [heap_alloc_new W (rowOf W d)]
  have h : q < (bytesRow d (grownCap W d.size 0 5)).size := by
    rw [rowOf_cells, List.size_toArray, List.length_append, Lib.byteCells_length, ← Lib.size_eq]; omega
  simp only [rowOf]
  simp
  omega
/-- back to a string, behind one byte's writing -/
theorem rowOf_back (W : World) (d : ByteArray) {q : Nat} (hq : q < d.size) (b : UInt8) :
    (convert 51 9 (.slice (some ⟨W.heap.size, 0, none⟩) d.size (grownCap W d.size 0 5))).run Try.prog ((W.alloc (rowOf W d)).setCell ⟨W.heap.size, q, none⟩ (.int .u8 (b.toNat : Int))).drew =
      .ok (.string ⟨d.data.set! q b⟩) ((W.alloc (rowOf W d)).setCell ⟨W.heap.size, q, none⟩ (.int .u8 (b.toNat : Int))).drew := by
  have hnew := heap_alloc_new W (rowOf W d)
  generalize hV : W.alloc (rowOf W d) = V at *
  have hg : (V.setCell ⟨W.heap.size, q, none⟩ (.int .u8 (b.toNat : Int))).drew.heap[W.heap.size]? = some (.cells ((bytesRow d (grownCap W d.size 0 5)).setIfInBounds q (.int .u8 (b.toNat : Int))) 5 ((bytesRow d (grownCap W d.size 0 5)).size, (bytesRow d (grownCap W d.size 0 5)).size + 1)) := by
    show (V.setCell ⟨W.heap.size, q, none⟩ (.int .u8 (b.toNat : Int))).heap[W.heap.size]? = _
    simp [World.setCell, Array.getElem?_modify, hnew, rowOf]
  have hd : (d.data.set! q b).toList = d.data.toList.set q b := by rw [Array.set!_eq_setIfInBounds, Array.toList_setIfInBounds]
  have h := run_convert_bytes_arg (V.setCell ⟨W.heap.size, q, none⟩ (.int .u8 (b.toNat : Int))).drew 51 5 Try.underlying51 Try.underlying5 W.heap.size 0 d.size (grownCap W d.size 0 5) ((d.data.set! q b).toList.map (fun b => (b.toNat : Int))) (by rw [List.length_map, hd, List.length_set, ← Lib.size_eq]) (fun i hi => by
    rw [Nat.zero_add, cell_of_row _ _ i _ _ _ hg, rowOf_cells, hd, ← Array.getElem?_toList, Array.toList_setIfInBounds]
    have hl : d.data.toList.length = d.size := by rw [← Lib.size_eq]
    by_cases e : i = q
    · subst e
      rw [List.getElem?_set_self (by simp [Lib.byteCells_length, hl]; omega), List.getD_eq_getElem?_getD, List.getElem?_map, List.getElem?_set_self (by omega)]
      rfl
    · rw [List.getElem?_set_ne (by omega), List.getD_eq_getElem?_getD, List.getElem?_map, List.getElem?_set_ne (by omega)]
      simp only
      rw [List.getElem?_append_left (by rw [Lib.byteCells_length]; omega)]
      simp only [Lib.byteCells, List.getElem?_map, List.getElem?_eq_getElem (show i < d.data.toList.length by omega)]
      rfl) 9 Try.underlying9
  rw [h]
  have e : (d.data.toList.set q b).toArray = d.data.setIfInBounds q b := by
    apply Array.ext'
    rw [Array.toList_setIfInBounds]
  simp [strOfNums, Function.comp_def, e]
set_option maxRecDepth 100000 in
set_option maxHeartbeats 4000000 in
theorem refPut_any {m : List M.Pg} {v : Value} (t : Int) (b : Nat) {w : World} (hP : Pages w v m) (hR : M.Right m) (t0 : 0 ≤ t) (t1 : t ≤ 18446744073709551615) (ht : M.there m (t - t % 256) = true) (hb : b < 256) :
    Calls Try.prog 28 #[v, .int .u64 t, .int .u8 b] w (NewPages (laid m t [UInt8.ofNat b]) w) := by
  have HA := Lib.hid (refAt_any t hP hR t0 t1)
  obtain ⟨hi, he⟩ := (M.there_iff hR.up _).1 ht
  obtain ⟨i, hie⟩ : ∃ i, M.low m (t - t % 256) = i := ⟨_, rfl⟩
  have hA : atI m t = i := by unfold atI; rw [ht, hie]; rfl
  rw [hA] at HA
  simp only [hie] at hi he
  have HL := Lib.hid (laid_one hR ht hi hie (UInt8.ofNat b))
  have hsz := hR.size hi
  have hml := hR.len
  have O0 := fun W : World => Lib.hid (show OwnsP (W.alloc (.cells #[] 70)) W.heap.size (.slice (some ⟨W.heap.size, 0, none⟩) 0 0) [] from ⟨rfl, .inr ⟨W.heap.size, 0, #[], rfl, Nat.le_refl _, heap_alloc_new _ _, Nat.le_refl _, by unfold maxLen; omega, rfl, rfl⟩⟩)
  have HP := Lib.hid (hP.next (balloc (Below.refl _ w) (.cells #[] 70)))
  obtain ⟨A, cap, hv⟩ := hP.slice
  obtain ⟨n, hn⟩ : ∃ n, m.length = n := ⟨_, rfl⟩
  have hin : i < n := by omega
  rw [hn] at hv
  subst hv
  have HN := Lib.hid hn
  obtain ⟨⟨qa, qp, d⟩, hq⟩ : ∃ q, m[i] = q := ⟨_, rfl⟩
  have HQ := Lib.hid hq
  rw [hq] at he hsz HL
  simp only at he hsz HL
  have HI := Lib.hid hi
  have H0 := O0 w
  have HML := Lib.hid hml
  have HE := Lib.hid he
  have HSZ := Lib.hid hsz
  clear hP hR hA hie hn hq ht O0 hml he hsz
  go_enter Try.func28, Try.ntmps28
  go_wp2_with fail
  refine HA.out.mono ?_
  rintro e w1 ⟨rfl, rfl⟩
  have i0 : (0 : Int) ≤ (i : Int) := Int.natCast_nonneg _
  have i1 : (i : Int) < (n : Int) := by omega
  have hcv : ∀ W : World, (convert 9 51 (.string d)).run Try.prog W = .ok (.slice (some ⟨W.heap.size, 0, none⟩) d.size (grownCap W d.size 0 5)) (W.drew.alloc (rowOf W d)) := fun W => run_bytes_of_string W _ _ _ d Try.underlying9 Try.underlying51 Try.underlying5
  obtain ⟨q, hqe⟩ := Int.eq_ofNat_of_zero_le (show 0 ≤ t % 256 by omega)
  have hq2 : IntKind.u64.wrap (t - qa) = (q : Int) := by rw [HE.out, IntKind.wrap_u64]; omega
  have HQE := Lib.hid hqe
  have hqd : q < d.size := by rw [HSZ.out]; omega
  have hc := fun W => rowOf_cell W d hqd
  have hf := fun W => rowOf_free W d hqd
  have hk := fun W => rowOf_back W d hqd (UInt8.ofNat b)
  rw [show (UInt8.ofNat b).toNat = b by simp; omega] at hk
  clear hqe
  go_wp2_with ((
    at_builtin
    refine wpList_append_pages rfl _ _ rfl w.heap.size _ [] m rfl H0.out _ rfl HP.out (by have := HML.out; have h : ([] : List M.Pg).length = 0 := rfl; omega) (by simp) ?_
    intro v' w1 hown hgrow
    have HB := Lib.hid ((balloc (Below.refl _ w) _).grown hgrow (by simp) (fun k hk => by cases hk; exact Nat.le_refl _))
    rw [List.nil_append] at hown
    have hown' : w1.ownsRow w.heap.size 70 3 v' m.length (cellsOf m) := hown
    obtain ⟨g, cp, rfl, hg0, hg⟩ := hown'.form (by have := HI.out; omega)
    have HG0 := Lib.hid hg0
    rw [HN.out] at hown
    obtain ⟨cur, hcur, e0, e1, e2⟩ := hown.at_ i HI.out
    rw [HQ.out] at e0 e1 e2
    simp only at e0 e1 e2
    rw [HN.out]
    have HOW := Lib.hid hown
    have ff := hcur.free (i * 3 + 2)
    clear hown hown' hgrow hcur hg0))
  go_ret
  have hB3 : Below w.heap.size w (w1.alloc (rowOf w1 d)) := bthen HB.out (balloc (Below.refl _ _) _)
  have hB4 := hB3.setCell (p := ⟨w1.heap.size, q, none⟩) (by have := HB.out.size; simpa using this) (.int .u8 (b : Int))
  have hB5 := hB4.setCell (p := ⟨g, i * 3 + 2, none⟩) HG0.out (.string ⟨d.data.setIfInBounds q (UInt8.ofNat b)⟩)
  refine ⟨_, rfl, ?_, hB5.drew⟩
  rw [HL.out, HQE.out, show ((q : Int)).toNat = q by omega, Array.set!_eq_setIfInBounds]
  have o1 : OwnsP (w1.alloc (rowOf w1 d)) w.heap.size (.slice (some ⟨g, 0, none⟩) n cp) m := ownsP_kept (row := none) HOW.out (grownBy_alloc w1 _) (.inr (fun e => by cases e))
  have o2 := ownsP_kept o1 (grownBy_put (w1.alloc (rowOf w1 d)) w1.heap.size q (.int .u8 (b : Int))) (.inr (fun e => by have h : g = w1.heap.size := Option.some.inj e; omega))
  have o3 := o2.putD HN.out i ⟨d.data.setIfInBounds q (UInt8.ofNat b)⟩ HI.out
  rw [HQ.out] at o3
  exact o3
end Go.Proofs.Ytpifndpbmjmglaa
namespace Go.Proofs.Ytpifndpbmjmglaa
open Go.RowKit
attribute [local go_sem] Oper.semAt_some
/-- a slice of these pages, and an error's number -/
def RefPages (m : List M.Pg) (err : Int) (w : World) (e : Ending) (w' : World) : Prop := ∃ v', e = .returned (.tuple #[v', .int .i64 err]) ∧ Pages w' v' m ∧ Below w.heap.size w w'
theorem new_pages {K : List M.Pg} {w W : World} {e : Ending} {w' : World} (h : NewPages K W e w') (hb : Below w.heap.size w W) (nv : Nat) (hn : K.length = nv) : ∃ A cap, e = .returned (.slice A nv cap) ∧ Pages w' (.slice A nv cap) K ∧ Below w.heap.size w w' := by
  obtain ⟨v', rfl, ho, hb'⟩ := h
  have hp := ho.pages
  obtain ⟨A, cap, rfl⟩ := hp.slice
  rw [hn] at hp ⊢
  exact ⟨A, cap, rfl, hp, bthen hb hb'⟩
end Go.Proofs.Ytpifndpbmjmglaa
namespace Go.Proofs.Ytpifndpbmjmglaa
open Go.RowKit
attribute [local go_sem] Oper.semAt_some
theorem fill_all {m : List M.Pg} {a : Int} {l : ByteArray} {N : Nat} (hN : l.size = N) (hr : rightB m = true) (a0 : 0 ≤ a) :
    ((∀ j : Nat, j < N → placeB m (a + j) 0 = true) → fillErr m a N = 0 ∧ fillM m a l = laid m a l.data.toList) ∧
    ((∃ j : Nat, j < N ∧ placeB m (a + j) 0 = false) → fillErr m a N = 8 ∧ fillM m a l = m) := by
  constructor
  · intro h
    have hg : allGrantB m a N 0 = true := by
      by_cases h0 : 1 ≤ N
      · exact (all_places a0 h0).2 h
      · obtain rfl : N = 0 := by omega
        simp [allGrantB, beyondB, M.strs_nil]
    have e : fillErr m a N = 0 := by simp [fillErr, hr, hg]
    exact ⟨e, by unfold fillM; rw [hN, if_pos e]⟩
  · rintro ⟨j, hj, h⟩
    have hf : allGrantB m a N 0 = false := by
      cases hc : allGrantB m a N 0
      · rfl
      · have := (all_places a0 (by omega)).1 hc j hj
        rw [h] at this; cases this
    have e : fillErr m a N = 8 := by simp [fillErr, hr, hf]
    exact ⟨e, by unfold fillM; rw [hN, if_neg (by omega)]⟩
set_option maxRecDepth 100000 in
set_option maxHeartbeats 4000000 in
theorem refFill_any {m : List M.Pg} {v : Value} (a : Int) (l : ByteArray) {w : World} (hP : Pages w v m) (hw : Wf m) (a0 : 0 ≤ a) (a1 : a ≤ 18446744073709551615) (hl : l.size ≤ 100000) :
    Calls Try.prog 14 #[v, .int .u64 a, .string l] w (RefPages (fillM m a l) (fillErr m a l.size) w) := by
  have HQ := Lib.hid (refRight_any hP hw.a0)
  have HPP := Lib.hid hP
  obtain ⟨A, cap, hv⟩ := hP.slice
  obtain ⟨nv, hnv⟩ : ∃ n, m.length = n := ⟨_, rfl⟩
  rw [hnv] at hv
  subst hv
  cases hr : rightB m
  · have HE : fillErr m a l.size = 1 := by simp [fillErr, hr]
    have HV : fillM m a l = m := by simp [fillM, HE]
    rw [HE, HV]
    rw [hr] at HQ
    clear hP hw HE HV hnv hr
    go_enter Try.func14, Try.ntmps14
    go_wp2_with fail
    refine HQ.out.mono ?_
    rintro e w1 ⟨rfl, hb1⟩
    have HB1 := Lib.hid hb1
    clear hb1
    go_wp2_with fail
    go_ret2
    exact ⟨_, rfl, HPP.out.next HB1.out, HB1.out⟩
  · have hR := Right.of hr hw.a0 hw.a1
    obtain ⟨N, hNs⟩ : ∃ N, l.size = N := ⟨_, rfl⟩
    obtain ⟨g0, g6⟩ := fill_all hNs hr a0
    have HA := Lib.hid (fun (W : World) (hb : Below w.heap.size w W) (t : Int) (t0 : 0 ≤ t) (t1 : t ≤ 18446744073709551615) => refAt_any t (hP.next hb) hR t0 t1)
    have HN := Lib.hid hnv
    have HRR := Lib.hid hR
    have HL0 := Lib.hid (show laid m a (l.data.toList.take 0) = m from laid_none hR a)
    have HTK := Lib.hid (show ∀ k, (h : k < l.size) → laid (laid m a (l.data.toList.take k)) (a + k) [l[k]] = laid m a (l.data.toList.take (k + 1)) from fun k h => by
      have h1 := laid_snoc m a (l.data.toList.take k) l[k]
      rw [List.length_take, ← Lib.size_eq, show min k l.size = k by omega] at h1
      rw [h1, take_snoc l k h])
    have HTA := Lib.hid (show l.data.toList.take N = l.data.toList from List.take_of_length_le (by rw [← Lib.size_eq]; omega))
    rw [hr] at HQ
    rw [hNs] at hl ⊢
    obtain ⟨E, hE⟩ : ∃ E, fillErr m a N = E := ⟨_, rfl⟩
    obtain ⟨S, hS⟩ : ∃ S, fillM m a l = S := ⟨_, rfl⟩
    rw [hE, hS] at g0 g6 ⊢
    have G0 := Lib.hid g0
    have G6 := Lib.hid g6
    have HNS := Lib.hid hNs
    clear hP hw hR hr hnv hE hS g0 g6 hNs
    go_enter Try.func14, Try.ntmps14
    go_wp2_with fail
    refine HQ.out.mono ?_
    rintro e w1 ⟨rfl, hb1⟩
    have HB1 := Lib.hid hb1
    clear hb1
    go_wp2_with fail
    go_loopw [9, 10] (fun o i wr => ∃ k : Nat, k ≤ N ∧ i = .int .i64 k ∧ (∃ A' cap', o = .slice A' nv cap' ∧ Pages wr (.slice A' nv cap') (laid m a (l.data.toList.take k))) ∧ (∀ j : Nat, j < k → placeB m (a + j) 0 = true) ∧ Below w.heap.size w wr) (fun _ i _ => N - (intOf i).toNat)
    case atStart => exact ⟨0, Nat.zero_le _, rfl, ⟨_, _, rfl, by rw [HL0.out]; exact HPP.out.next HB1.out⟩, fun j h => absurd h (Nat.not_lt_zero _), HB1.out⟩
    case round =>
      obtain ⟨k, hk, rfl, ⟨A', cap', rfl, ho⟩, hpl, hb⟩ := hrel
      have HB := Lib.hid hb
      have HPL := Lib.hid hpl
      have HO := Lib.hid ho
      clear hb hpl ho
      by_cases hlt : k < N
      · have wk : IntKind.u64.wrap (k : Int) = (k : Int) := by rw [IntKind.wrap_u64]; omega
        have hks : k < l.size := by have := HNS.out; omega
        have lk : ((k : Int) < (l.size : Int)) := by omega
        have lk0 : ((0 : Int) ≤ (k : Int)) := by omega
        by_cases hov : a + (k : Int) ≤ 18446744073709551615
        · have wt : IntKind.u64.wrap (a + (k : Int)) = a + (k : Int) := by rw [IntKind.wrap_u64]; omega
          have lt : decide (a + (k : Int) < a) = false := by simp; omega
          have HC := Lib.hid (HA.out wr HB.out (a + k) (by omega) hov)
          cases hc : M.there m (a + (k : Int) - (a + (k : Int)) % 256)
          · have hA : atI m (a + k) = -1 := by unfold atI; rw [hc]; rfl
            rw [hA] at HC
            have HF := Lib.hid (G6.out ⟨k, hlt, by unfold placeB grantB; rw [hc]; simp⟩)
            clear hA hc
            go_wp2_with fail
            refine HC.out.mono ?_
            rintro e w2 ⟨rfl, rfl⟩
            go_wp2_with fail
            go_ret2
            exact ⟨_, by rw [HF.out.1]; rfl, by rw [HF.out.2]; exact HPP.out.next HB.out, HB.out⟩
          · have hA : atI m (a + k) = M.low m (a + (k : Int) - (a + (k : Int)) % 256) := by unfold atI; rw [hc]; rfl
            rw [hA] at HC
            obtain ⟨hi, he⟩ := (M.there_iff HRR.out.up _).1 hc
            have hgr : placeB m (a + k) 0 = true := by
              unfold placeB grantB
              rw [hc, List.getElem?_eq_getElem hi]
              simp [hov, okBits_zero]
            have HNX := Lib.hid (fun (j : Nat) (hj : j < k + 1) => (show placeB m (a + j) 0 = true from by
              by_cases e : j = k
              · subst e; exact hgr
              · exact HPL.out j (by omega)))
            have HPU := Lib.hid (fun (W : World) (o : Value) (hO : Pages W o (laid m a (l.data.toList.take k))) => refPut_any (a + k) (l[k].toNat) hO (laid_right HRR.out a _) (by omega) hov (by rw [laid_there]; exact hc) (l[k]).toNat_lt)
            rw [show UInt8.ofNat (l[k].toNat) = l[k] by simp, HTK.out k hks] at HPU
            obtain ⟨i, hie⟩ : ∃ i, M.low m (a + (k : Int) - (a + (k : Int)) % 256) = i := ⟨_, rfl⟩
            rw [hie] at HC
            have i2 : decide ((i : Int) < 0) = false := by simp
            clear hgr he hA hie hc hi
            go_wp2_with fail
            refine HC.out.mono ?_
            rintro e w2 ⟨rfl, rfl⟩
            go_wp2_with fail
            refine (HPU.out _ _ HO.out).mono ?_
            intro e w4 hnew
            obtain ⟨A4, cap4, rfl, hp4, hb4⟩ := new_pages hnew HB.out nv (by rw [laid_length]; exact HN.out)
            have HP4 := Lib.hid hp4
            have HB4 := Lib.hid hb4
            clear hnew hp4 hb4
            go_wp2_with fail
            go_roundw
            case rel => exact ⟨k + 1, by omega, by go_num, ⟨_, _, rfl, HP4.out⟩, HNX.out, HB4.out⟩
            case measure => simp [intOf]; omega
        · have HQ6 := Lib.hid (G6.out ⟨k, hlt, by unfold placeB; simp [hov]⟩)
          have wt : IntKind.u64.wrap (a + (k : Int)) = a + (k : Int) - 18446744073709551616 := by rw [IntKind.wrap_u64]; omega
          have lt : decide (a + (k : Int) - 18446744073709551616 < a) = true := by simp; omega
          have HC := Lib.hid (HA.out wr HB.out (a + k - 18446744073709551616) (by omega) (by omega))
          obtain ⟨z, hz⟩ : ∃ z, atI m (a + k - 18446744073709551616) = z := ⟨_, rfl⟩
          rw [hz] at HC
          clear hz
          by_cases hz0 : z < 0
          all_goals
            go_wp2_with fail
            refine HC.out.mono ?_
            rintro e w2 ⟨rfl, rfl⟩
            go_wp2_with fail
            go_ret2
            exact ⟨_, by rw [HQ6.out.1]; rfl, by rw [HQ6.out.2]; exact HPP.out.next HB.out, HB.out⟩
      · obtain rfl : k = N := by omega
        have HQ0 := Lib.hid (G0.out HPL.out)
        have lk : ¬ ((k : Int) < (l.size : Int)) := by have := HNS.out; omega
        go_wp2_with fail
        go_ret2
        exact ⟨_, by rw [HQ0.out.1]; rfl, by rw [HQ0.out.2, ← HTA.out]; exact HO.out, HB.out⟩
end Go.Proofs.Ytpifndpbmjmglaa
namespace Go.Proofs.Ytpifndpbmjmglaa
open Go.RowKit Go.Shelf
attribute [local go_sem] Oper.semAt_some
theorem one_page (W : World) (x : M.Pg) : Pages (W.alloc (.cells #[.int .u64 x.a, .int .i64 x.p, .string x.d] 70)) (.slice (some ⟨W.heap.size, 0, none⟩) 1 1) [x] := by
  obtain ⟨h0, h1, h2⟩ := page_new W x.a x.p x.d 70
  refine .inr ⟨by simp, W.heap.size, 0, 1, rfl, by simp, fun i hi => ?_⟩
  obtain rfl : i = 0 := by simpa using hi
  exact ⟨h0, h1, h2⟩
theorem OwnsP.alloc {W : World} {base : Nat} {v : Value} {m : List M.Pg} (h : OwnsP W base v m) (o : Obj) : OwnsP (W.alloc o) base v m := by
  refine ownsP_kept (row := none) h (grownBy_alloc W o) ?_
  cases hv : v.ownBlock
  · exact .inl rfl
  · exact .inr (by simp)
theorem OwnsP.cast {W : World} {base : Nat} {v : Value} {m k : List M.Pg} (h : OwnsP W base v m) (e : m = k) : OwnsP W base v k := e ▸ h
theorem OwnsP.kept0 {W W' : World} {base : Nat} {v : Value} {m : List M.Pg} (h : OwnsP W base v m) (hg : W.grownBy W' none) : OwnsP W' base v m := by
  refine ownsP_kept (row := none) h hg ?_
  cases hv : v.ownBlock
  · exact .inl rfl
  · exact .inr (by simp)
theorem own_grown {w W W' : World} {v : Value} {m : List M.Pg} (hb : Below w.heap.size w W) (ho : OwnsP W w.heap.size v m) (hg : W.grownBy W' v.ownBlock) : Below w.heap.size w W' := by
  have h' : W.ownsRow w.heap.size 70 3 v m.length (cellsOf m) := ho
  refine hb.grown hg hb.size (fun k hk => ?_)
  rcases h'.2 with ⟨rfl, _⟩ | ⟨g, cap, cur, rfl, h1, _⟩
  · cases hk
  · have : g = k := Option.some.inj hk
    omega
theorem noughts_conv {W : World} {base g : Nat} (h : W.ownsRow base 5 1 (.slice (some ⟨g, 0, none⟩) 256 256) 256 (madeCells (Value.int .u8 0).cells (256 * 1)).toList) :
    (convert 51 9 (.slice (some ⟨g, 0, none⟩) 256 256)).run Try.prog W = .ok (.string noughts) W := by
  have hw := Whole.of_full h
  rw [made_nought] at hw
  have hn : noughts.data.toList = List.replicate 256 0 := rfl
  have h2 := run_convert_bytes_arg W 51 5 Try.underlying51 Try.underlying5 g 0 256 256 (noughts.data.toList.map (fun b => (b.toNat : Int))) (by rw [List.length_map, hn, List.length_replicate]) (fun i hi => by
    rw [Nat.zero_add, hw.cell, List.getElem?_toArray, List.getElem?_replicate, if_pos hi, hn, List.getD_eq_getElem?_getD, List.getElem?_map, List.getElem?_replicate, if_pos hi]
    rfl) 9 Try.underlying9
  rw [h2]
  simp [strOfNums, Function.comp_def]
def newP (a perm : Int) (j : Nat) : List M.Pg := (List.range j).map (fun j : Nat => (⟨a + 256 * j, perm, noughts⟩ : M.Pg))
theorem newP_succ (a perm : Int) (j : Nat) : newP a perm (j + 1) = newP a perm j ++ [⟨a + 256 * j, perm, noughts⟩] := by simp [newP, List.range_succ]
theorem newP_length (a perm : Int) (j : Nat) : (newP a perm j).length = j := by simp [newP]
theorem map_bad {m : List M.Pg} {a n perm : Int} (h : mapArg m a n perm = false) : mapErr m a n perm = 1 ∧ mapM m a n perm = m := by
  have e : mapErr m a n perm = 1 := by unfold mapErr; rw [if_pos h]
  exact ⟨e, by unfold mapM; rw [if_neg (by omega)]⟩
theorem map_all {m : List M.Pg} {a perm : Int} {N : Nat} (hm : a % 256 = 0) (h : mapArg m a N perm = true) :
    (anyB m a N = true → mapErr m a N perm = 9 ∧ mapM m a N perm = m) ∧
    (anyB m a N = false → 64 < m.length + N → mapErr m a N perm = 4 ∧ mapM m a N perm = m) ∧
    (anyB m a N = false → ¬ 64 < m.length + N → mapErr m a N perm = 0 ∧ mapM m a N perm = m.take (M.low m a) ++ (newP a perm N ++ m.drop (M.low m a))) := by
  refine ⟨fun h9 => ?_, fun h0 h4 => ?_, fun h0 h4 => ?_⟩
  · have e : mapErr m a N perm = 9 := by unfold mapErr; rw [if_neg (by simp [h]), if_pos h9]
    exact ⟨e, by unfold mapM; rw [if_neg (by omega)]⟩
  · have e : mapErr m a N perm = 4 := by unfold mapErr; rw [if_neg (by simp [h]), if_neg (by simp [h0]), if_pos (by omega)]
    exact ⟨e, by unfold mapM; rw [if_neg (by omega)]⟩
  · have e : mapErr m a N perm = 0 := by unfold mapErr; rw [if_neg (by simp [h]), if_neg (by simp [h0]), if_neg (by omega)]
    exact ⟨e, by unfold mapM; rw [if_pos e, new_full a perm N hm]; rfl⟩
theorem any_no {m : List M.Pg} {a : Int} {N : Nat} (hm : a % 256 = 0) (h : ∀ j : Nat, j < N → M.there m (a + 256 * j) = false) : anyB m a N = false := by
  unfold anyB
  rw [strs_full N a hm, List.any_eq_false]
  intro x hx
  obtain ⟨j, hj, rfl⟩ := List.mem_map.1 hx
  simp only [h j (List.mem_range.1 hj), Bool.false_eq_true, not_false_eq_true]
theorem any_yes {m : List M.Pg} {a : Int} {N j : Nat} (hm : a % 256 = 0) (hj : j < N) (h : M.there m (a + 256 * j) = true) : anyB m a N = true := by
  unfold anyB
  rw [strs_full N a hm, List.any_eq_true]
  exact ⟨_, List.mem_map.2 ⟨j, List.mem_range.2 hj, rfl⟩, h⟩
theorem mapArg_parts {m : List M.Pg} {a n perm : Int} : mapArg m a n perm = true ↔ rightB m = true ∧ a % 256 = 0 ∧ 1 ≤ n ∧ n ≤ 64 ∧ 0 ≤ perm ∧ perm ≤ 7 ∧ ¬ 18446744073709551616 < a + n * 256 := by
  simp only [mapArg, M.okPerm, beyondB, Bool.and_eq_true, decide_eq_true_eq, Bool.not_eq_true', decide_eq_false_iff_not]
  constructor
  · rintro ⟨h1, h2, h3, h4, h5, h6⟩
    exact ⟨h1, h2, h3, h4, h5.1, h5.2, by omega⟩
  · rintro ⟨h1, h2, h3, h4, h5, h6, h7⟩
    exact ⟨h1, h2, h3, h4, ⟨h5, h6⟩, by omega⟩
set_option maxRecDepth 100000 in
set_option maxHeartbeats 4000000 in
theorem refMap_bad {m : List M.Pg} {v : Value} (a n perm : Int) {w : World} (hP : Pages w v m) (hw : Wf m) (a0 : 0 ≤ a) (a1 : a ≤ 18446744073709551615) (hbad : mapArg m a n perm = false) :
    Calls Try.prog 12 #[v, .int .u64 a, .int .i64 n, .int .i64 perm] w (RefPages (mapM m a n perm) (mapErr m a n perm) w) := by
  have HQ := Lib.hid (refRight_any hP hw.a0)
  have HPP := Lib.hid hP
  obtain ⟨A, cap, hv⟩ := hP.slice
  obtain ⟨nv, hnv⟩ : ∃ n, m.length = n := ⟨_, rfl⟩
  rw [hnv] at hv
  subst hv
  obtain ⟨e1, e2⟩ := map_bad hbad
  rw [e1, e2]
  have hb : ¬ (rightB m = true ∧ a % 256 = 0 ∧ 1 ≤ n ∧ n ≤ 64 ∧ 0 ≤ perm ∧ perm ≤ 7 ∧ ¬ 18446744073709551616 < a + n * 256) := fun h => by
    rw [mapArg_parts.2 h] at hbad; cases hbad
  obtain ⟨r, hr⟩ : ∃ r, rightB m = r := ⟨_, rfl⟩
  rw [hr] at HQ hb
  clear hP hw e1 e2 hnv hr hbad
  cases r
  · clear hb
    go_enter Try.func12, Try.ntmps12
    go_wp2_with fail
    refine HQ.out.mono ?_
    rintro e w1 ⟨rfl, hb1⟩
    have HB1 := Lib.hid hb1
    clear hb1
    go_wp2_with fail
    go_ret2
    exact ⟨_, rfl, HPP.out.next HB1.out, HB1.out⟩
  · by_cases c1 : ¬ a % 256 = 0
    · have t1 : (a % 256 != 0) = true := by simpa using c1
      clear hb c1
      go_enter Try.func12, Try.ntmps12
      go_wp2_with fail
      refine HQ.out.mono ?_
      rintro e w1 ⟨rfl, hb1⟩
      have HB1 := Lib.hid hb1
      clear hb1
      go_wp2_with fail
      go_ret2
      exact ⟨_, rfl, HPP.out.next HB1.out, HB1.out⟩
    · have t1 : (a % 256 != 0) = false := by simp; omega
      by_cases c2 : n < 1
      · have t2 : decide (n < 1) = true := by simpa using c2
        clear hb c2
        go_enter Try.func12, Try.ntmps12
        go_wp2_with fail
        refine HQ.out.mono ?_
        rintro e w1 ⟨rfl, hb1⟩
        have HB1 := Lib.hid hb1
        clear hb1
        go_wp2_with fail
        go_ret2
        exact ⟨_, rfl, HPP.out.next HB1.out, HB1.out⟩
      · have t2 : decide (n < 1) = false := by simp; omega
        by_cases c3 : 64 < n
        · have t3 : decide (64 < n) = true := by simpa using c3
          clear hb c3
          go_enter Try.func12, Try.ntmps12
          go_wp2_with fail
          refine HQ.out.mono ?_
          rintro e w1 ⟨rfl, hb1⟩
          have HB1 := Lib.hid hb1
          clear hb1
          go_wp2_with fail
          go_ret2
          exact ⟨_, rfl, HPP.out.next HB1.out, HB1.out⟩
        · have t3 : decide (64 < n) = false := by simp; omega
          by_cases c4 : perm < 0
          · have t4 : decide (perm < 0) = true := by simpa using c4
            clear hb c4
            go_enter Try.func12, Try.ntmps12
            go_wp2_with fail
            refine HQ.out.mono ?_
            rintro e w1 ⟨rfl, hb1⟩
            have HB1 := Lib.hid hb1
            clear hb1
            go_wp2_with fail
            go_ret2
            exact ⟨_, rfl, HPP.out.next HB1.out, HB1.out⟩
          · have t4 : decide (perm < 0) = false := by simp; omega
            by_cases c5 : 7 < perm
            · have t5 : decide (7 < perm) = true := by simpa using c5
              clear hb c5
              go_enter Try.func12, Try.ntmps12
              go_wp2_with fail
              refine HQ.out.mono ?_
              rintro e w1 ⟨rfl, hb1⟩
              have HB1 := Lib.hid hb1
              clear hb1
              go_wp2_with fail
              go_ret2
              exact ⟨_, rfl, HPP.out.next HB1.out, HB1.out⟩
            · have t5 : decide (7 < perm) = false := by simp; omega
              have c6 : 18446744073709551616 < a + n * 256 := by
                apply Classical.byContradiction
                intro h
                exact hb ⟨rfl, by omega, by omega, by omega, by omega, by omega, h⟩
              obtain ⟨N, rfl⟩ := Int.eq_ofNat_of_zero_le (show 0 ≤ n by omega)
              have w1 : IntKind.u64.wrap (N : Int) = (N : Int) := by rw [IntKind.wrap_u64]; omega
              have m4 : Int.tdiv a 256 = a / 256 := by rw [Int.tdiv_eq_ediv_of_nonneg a0]
              have w2 : IntKind.u64.wrap (a / 256 + (N : Int)) = a / 256 + (N : Int) := by rw [IntKind.wrap_u64]; omega
              have t6 : decide ((72057594037927936 : Int) < a / 256 + (N : Int)) = true := by simp; omega
              clear hb c6
              go_enter Try.func12, Try.ntmps12
              go_wp2_with fail
              refine HQ.out.mono ?_
              rintro e w1 ⟨rfl, hb1⟩
              have HB1 := Lib.hid hb1
              clear hb1
              go_wp2_with fail
              go_ret2
              exact ⟨_, rfl, HPP.out.next HB1.out, HB1.out⟩
set_option maxRecDepth 100000 in
set_option maxHeartbeats 8000000 in
theorem refMap_good {m : List M.Pg} {v : Value} (a perm : Int) (N : Nat) {w : World} (hP : Pages w v m) (hw : Wf m) (a0 : 0 ≤ a) (a1 : a ≤ 18446744073709551615) (hgood : mapArg m a N perm = true) :
    Calls Try.prog 12 #[v, .int .u64 a, .int .i64 N, .int .i64 perm] w (RefPages (mapM m a N perm) (mapErr m a N perm) w) := by
  obtain ⟨i0, hi0, hz0, hz1, hz2⟩ := info_parts (show (Try.prog.info? 5).map (fun i => (i.zero, i.size, i.bytes)) = some (some (.int .u8 0), 1, 1) by kernel_rfl)
  obtain ⟨hr, hm, b1, b64, p0, p7, hend⟩ := mapArg_parts.1 hgood
  have hR := Right.of hr hw.a0 hw.a1
  have HQ := Lib.hid (refRight_any hP hw.a0)
  rw [hr] at HQ
  have HPP := Lib.hid hP
  have HA := Lib.hid (fun (W : World) (hb : Below w.heap.size w W) (t : Int) (t0 : 0 ≤ t) (t1 : t ≤ 18446744073709551615) => refAt_any t (hP.next hb) hR t0 t1)
  have HLO := Lib.hid (fun (k : Nat) (h : k < m.length) => M.lt_low hR.up a h)
  have HLE := Lib.hid (M.low_le m a)
  have HNT := Lib.hid (fun (h : anyB m a N = false) (k : Nat) (hk : k < m.length) => (show m[k].a ≠ a from by have h1 := not_there hm h _ (List.getElem_mem hk) 0 (by omega); simpa using h1))
  have hlen := hR.len
  obtain ⟨g9, g4, g0⟩ := map_all hm hgood
  have HAN := Lib.hid (fun h => any_no (m := m) (N := N) hm h)
  have HAY := Lib.hid (fun (j : Nat) (hj : j < N) h => any_yes (m := m) hm hj h)
  have HAT := Lib.hid (fun (j : Nat) => (show a + 256 * (j : Int) - (a + 256 * (j : Int)) % 256 = a + 256 * (j : Int) from by omega))
  obtain ⟨E, hE⟩ : ∃ E, mapErr m a N perm = E := ⟨_, rfl⟩
  obtain ⟨S, hS⟩ : ∃ S, mapM m a N perm = S := ⟨_, rfl⟩
  obtain ⟨L, hL⟩ : ∃ L, M.low m a = L := ⟨_, rfl⟩
  rw [hE, hS, hL] at g0
  rw [hE, hS] at g9 g4 ⊢
  rw [hL] at HLO HLE
  have G0 := Lib.hid g0
  have G4 := Lib.hid g4
  have G9 := Lib.hid g9
  obtain ⟨A, cap, hv⟩ := hP.slice
  obtain ⟨nv, hnv⟩ : ∃ n, m.length = n := ⟨_, rfl⟩
  rw [hnv] at hv hlen
  subst hv
  have HN := Lib.hid hnv
  have HPI := Lib.hid (fun (h : 0 < nv) => (show ∃ b off, A = some ⟨b, off, none⟩ ∧ PagesIn w b off m from by
    rcases hP with ⟨rfl, _⟩ | ⟨_, b, off, c, e, hh⟩
    · simp at hnv; omega
    · cases e; exact ⟨b, off, rfl, hh⟩))
  have t1 : (a % 256 != 0) = false := by simp; omega
  have t2 : decide ((N : Int) < 1) = false := by simp; omega
  have t3 : decide (64 < (N : Int)) = false := by simp; omega
  have t4 : decide (perm < 0) = false := by simp; omega
  have t5 : decide (7 < perm) = false := by simp; omega
  have wn1 : IntKind.u64.wrap (N : Int) = (N : Int) := by rw [IntKind.wrap_u64]; omega
  have m4 : Int.tdiv a 256 = a / 256 := by rw [Int.tdiv_eq_ediv_of_nonneg a0]
  have wn2 : IntKind.u64.wrap (a / 256 + (N : Int)) = a / 256 + (N : Int) := by rw [IntKind.wrap_u64]; omega
  have t6 : decide ((72057594037927936 : Int) < a / 256 + (N : Int)) = false := by simp; omega
  have HM := Lib.hid hm
  clear hP hw hR hr hnv hE hS hL g0 g4 g9 hgood hm
  go_enter Try.func12, Try.ntmps12
  go_wp2_with fail
  refine HQ.out.mono ?_
  rintro e w1 ⟨rfl, hb1⟩
  have HB1 := Lib.hid hb1
  clear hb1
  go_wp2_with fail
  clear t1 t2 t3 t4 t5 wn1 m4 wn2 t6
  go_loopw [11] (fun i wr => ∃ j : Nat, j ≤ N ∧ i = .int .i64 j ∧ (∀ k : Nat, k < j → M.there m (a + 256 * k) = false) ∧ Below w.heap.size w wr) (fun i _ => N - (intOf i).toNat)
  case atStart => exact ⟨0, Nat.zero_le _, rfl, fun k h => absurd h (Nat.not_lt_zero _), HB1.out⟩
  case round =>
    obtain ⟨j, hj, rfl, hno, hb⟩ := hrel
    have HB := Lib.hid hb
    have HNO := Lib.hid hno
    clear hb hno
    by_cases hlt : j < N
    · have wj : IntKind.u64.wrap (j : Int) = (j : Int) := by rw [IntKind.wrap_u64]; omega
      have wm : IntKind.u64.wrap (256 * (j : Int)) = 256 * (j : Int) := by rw [IntKind.wrap_u64]; omega
      have wa : IntKind.u64.wrap (a + 256 * (j : Int)) = a + 256 * (j : Int) := by rw [IntKind.wrap_u64]; omega
      have lj : (j : Int) < (N : Int) := by omega
      have HC := Lib.hid (HA.out wr HB.out (a + 256 * j) (by omega) (by omega))
      cases hc : M.there m (a + 256 * (j : Int))
      · have hA : atI m (a + 256 * j) = -1 := by unfold atI; rw [HAT.out, hc]; rfl
        rw [hA] at HC
        have HNX := Lib.hid (fun (k : Nat) (hk : k < j + 1) => (show M.there m (a + 256 * k) = false from by
          by_cases e : k = j
          · subst e; exact hc
          · exact HNO.out k (by omega)))
        clear hA hc
        go_wp2_with fail
        refine HC.out.mono ?_
        rintro e w2 ⟨rfl, rfl⟩
        go_wp2_with fail
        go_roundw
        case rel => exact ⟨j + 1, by omega, by go_num, HNX.out, HB.out⟩
        case measure => simp [intOf]; omega
      · have HF := Lib.hid (G9.out (HAY.out j hlt hc))
        have hA : atI m (a + 256 * j) = M.low m (a + 256 * (j : Int)) := by unfold atI; rw [HAT.out, hc]; rfl
        rw [hA] at HC
        obtain ⟨i, hie⟩ : ∃ i, M.low m (a + 256 * (j : Int)) = i := ⟨_, rfl⟩
        rw [hie] at HC
        have ii : decide ((0 : Int) ≤ (i : Int)) = true := by simp
        clear hA hc hie
        go_wp2_with fail
        refine HC.out.mono ?_
        rintro e w2 ⟨rfl, rfl⟩
        go_wp2_with fail
        go_ret2
        exact ⟨_, by rw [HF.out.1]; rfl, by rw [HF.out.2]; exact HPP.out.next HB.out, HB.out⟩
    · obtain rfl : j = N := by omega
      have hany := HAN.out HNO.out
      have HNTT := Lib.hid (HNT.out hany)
      by_cases h64 : 64 < nv + j
      · have HF := Lib.hid (G4.out hany (by have := HN.out; omega))
        have wl : IntKind.i64.wrap ((nv : Int) + (j : Int)) = (nv : Int) + (j : Int) := by rw [IntKind.wrap_i64]; omega
        have l64 : decide ((64 : Int) < (nv : Int) + (j : Int)) = true := by simp; omega
        clear hany
        go_wp2_with fail
        go_ret2
        exact ⟨_, by rw [HF.out.1]; rfl, by rw [HF.out.2]; exact HPP.out.next HB.out, HB.out⟩
      · have HF := Lib.hid (G0.out hany (by have := HN.out; omega))
        have wl : IntKind.i64.wrap ((nv : Int) + (j : Int)) = (nv : Int) + (j : Int) := by rw [IntKind.wrap_i64]; omega
        have l64 : decide ((64 : Int) < (nv : Int) + (j : Int)) = false := by simp; omega
        clear hany
        go_wp2_with fail
        clear wl l64
        go_loopw [12, 13] (fun o i wr => ∃ k : Nat, k ≤ L ∧ i = .int .i64 k ∧ OwnsP wr w.heap.size o (m.take k) ∧ Below w.heap.size w wr) (fun _ i _ => L - (intOf i).toNat)
        case atStart => exact ⟨0, Nat.zero_le _, rfl, ⟨rfl, .inl ⟨rfl, rfl⟩⟩, HB.out⟩
        case round =>
          obtain ⟨k, hk, rfl, ho, hb⟩ := hrel
          have HB := Lib.hid hb
          have HO := Lib.hid ho
          clear hb ho
          by_cases hkL : k < L
          · have hkm : k < m.length := by have := HLE.out; omega
            have hkn : k < nv := by have := HN.out; omega
            obtain ⟨b, off, rfl, hPI⟩ := HPI.out (by omega)
            obtain ⟨e0, e1, e2⟩ := (hPI.next HB.out).2 k hkm
            have hlo := (HLO.out k hkm).2 hkL
            have HTK := Lib.hid (show m.take (k + 1) = m.take k ++ [m[k]] from by rw [List.take_succ_eq_append_getElem hkm])
            have HOA := Lib.hid (HO.out.alloc (.cells #[.int .u64 (m[k]).a, .int .i64 (m[k]).p, .string (m[k]).d] 70))
            have HPO := Lib.hid (one_page wr m[k])
            have HBA := Lib.hid (balloc HB.out (.cells #[.int .u64 (m[k]).a, .int .i64 (m[k]).p, .string (m[k]).d] 70))
            obtain ⟨⟨xa, xp, xd⟩, hx⟩ : ∃ x, m[k] = x := ⟨_, rfl⟩
            rw [hx] at e0 e1 e2 hlo HTK HOA HPO HBA
            simp only at e0 e1 e2 hlo HOA HPO HBA
            have k0 : (0 : Int) ≤ (k : Int) := Int.natCast_nonneg _
            have k1 : (k : Int) < (nv : Int) := by omega
            have lo2 : decide (xa < a) = true := by simpa using hlo
            clear hx hPI hlo
            go_wp2_with ((
              at_builtin
              refine wpList_append_pages rfl _ _ rfl w.heap.size _ (m.take k) [⟨xa, xp, xd⟩] rfl HOA.out _ rfl HPO.out (by have h := List.length_take_le k m; have h2 : ([⟨xa, xp, xd⟩] : List M.Pg).length = 1 := rfl; rw [h2]; omega) (by have := HB.out.size; simp; omega) ?_
              intro v' w3 hown hgrow
              have HO3 := Lib.hid hown
              have HB3 := Lib.hid (own_grown HBA.out HOA.out hgrow)
              clear hown hgrow))
            go_roundw
            case rel => exact ⟨k + 1, by omega, by go_num, by rw [HTK.out]; exact HO3.out, HB3.out⟩
            case measure => simp [intOf]; omega
          · obtain rfl : k = L := by omega
            have HO' := Lib.hid (HO.out.cast (show m.take k = m.take k ++ newP a perm 0 by rw [show newP a perm 0 = [] from rfl, List.append_nil]))
            by_cases hkn : k < nv
            all_goals
              first
                | (obtain ⟨b, off, hAA, hPI⟩ := HPI.out (Nat.lt_of_le_of_lt (Nat.zero_le _) hkn)
                   have hkm : k < m.length := by have := HN.out; omega
                   obtain ⟨e0, -, -⟩ := (hPI.next HB.out).2 k hkm
                   have hlo : ¬ m[k].a < a := fun h => by have := (HLO.out k hkm).1 h; omega
                   obtain ⟨xa, hx⟩ : ∃ x, m[k].a = x := ⟨_, rfl⟩
                   rw [hx] at e0 hlo
                   have k0 : (0 : Int) ≤ (k : Int) := Int.natCast_nonneg _
                   have k1 : (k : Int) < (nv : Int) := by omega
                   have lo2 : decide (xa < a) = false := by simpa using hlo
                   have HAA := Lib.hid hAA
                   subst hAA
                   clear hPI hlo hx)
                | (have k1 : ¬ (k : Int) < (nv : Int) := by omega)
              go_wp2_with fail
              go_loopw [12, 14] (fun o i wr => ∃ q : Nat, q ≤ j ∧ i = .int .i64 q ∧ OwnsP wr w.heap.size o (m.take k ++ newP a perm q) ∧ Below w.heap.size w wr) (fun _ i _ => j - (intOf i).toNat)
              case atStart => exact ⟨0, Nat.zero_le _, rfl, HO'.out, HB.out⟩
              case round =>
                obtain ⟨q, hq, rfl, ho, hb⟩ := hrel
                have HB := Lib.hid hb
                have HO := Lib.hid ho
                clear hb ho
                by_cases hqj : q < j
                · have wj : IntKind.u64.wrap (q : Int) = (q : Int) := by rw [IntKind.wrap_u64]; omega
                  have wm : IntKind.u64.wrap (256 * (q : Int)) = 256 * (q : Int) := by rw [IntKind.wrap_u64]; omega
                  have wa : IntKind.u64.wrap (a + 256 * (q : Int)) = a + 256 * (q : Int) := by rw [IntKind.wrap_u64]; omega
                  have lj : (q : Int) < (j : Int) := by omega
                  have HTL := Lib.hid (show m.take k ++ newP a perm (q + 1) = (m.take k ++ newP a perm q) ++ [⟨a + 256 * q, perm, noughts⟩] by rw [newP_succ, List.append_assoc])
                  have HLN := Lib.hid (show (m.take k ++ newP a perm q).length ≤ 128 by rw [List.length_append, newP_length]; have := List.length_take_le k m; have := HLE.out; have := HN.out; omega)
                  obtain ⟨Z, hZ⟩ : ∃ Z, noughts = Z := ⟨_, rfl⟩
                  have HZ := Lib.hid hZ
                  go_wp2_with (first
                    | (at_make
                       refine wpList_make_full _ rfl _ _ 51 rfl wr.heap.size 5 i0 (.int .u8 0) 1 Try.underlying51 hi0 hz0 hz1 .i64 .i64 _ _ 256 rfl rfl rfl rfl (by rw [hz2]; omega) (by unfold maxLen; omega) (Nat.le_refl _) ?_
                       intro w0 hown0 hgrow0
                       have hcv := noughts_conv hown0
                       rw [HZ.out] at hcv
                       have HOW := Lib.hid ((HO.out.kept0 hgrow0).alloc (.cells #[.int .u64 (a + 256 * (q : Int)), .int .i64 perm, .string Z] 70))
                       have HB0 := Lib.hid (balloc (HB.out.grown hgrow0 HB.out.size (fun k hk => by cases hk)) (.cells #[.int .u64 (a + 256 * (q : Int)), .int .i64 perm, .string Z] 70))
                       have HPO := Lib.hid (one_page w0 ⟨a + 256 * (q : Int), perm, Z⟩)
                       clear hown0 hgrow0)
                    | (at_builtin
                       refine wpList_append_pages rfl _ _ rfl w.heap.size _ (m.take k ++ newP a perm q) [⟨a + 256 * (q : Int), perm, Z⟩] rfl HOW.out _ rfl HPO.out (by have h := HLN.out; have h2 : ([⟨a + 256 * (q : Int), perm, Z⟩] : List M.Pg).length = 1 := rfl; rw [h2]; omega) HB0.out.size ?_
                       intro v' w3 hown hgrow
                       have HO3 := Lib.hid hown
                       have HB3 := Lib.hid (own_grown HB0.out HOW.out hgrow)
                       clear hown hgrow))
                  go_roundw
                  case rel => exact ⟨q + 1, by omega, by go_num, by rw [HTL.out, HZ.out]; exact HO3.out, HB3.out⟩
                  case measure => simp [intOf]; omega
                · obtain rfl : q = j := by omega
                  have HO' := Lib.hid (HO.out.cast (show m.take k ++ newP a perm q = m.take k ++ (newP a perm q ++ (m.drop k).take (0 - k)) by rw [Nat.zero_sub, List.take_zero, List.append_nil]))
                  go_wp2_with fail
                  go_loopw [12, 15] (fun o i wr => ∃ r : Nat, r ≤ nv ∧ i = .int .i64 r ∧ OwnsP wr w.heap.size o (m.take k ++ (newP a perm q ++ (m.drop k).take (r - k))) ∧ Below w.heap.size w wr) (fun _ i _ => nv - (intOf i).toNat)
                  case atStart => exact ⟨0, Nat.zero_le _, rfl, HO'.out, HB.out⟩
                  case round =>
                    obtain ⟨r, hr, rfl, ho, hb⟩ := hrel
                    have HB := Lib.hid hb
                    have HO := Lib.hid ho
                    clear hb ho
                    by_cases hrn : r < nv
                    · have hrm : r < m.length := by have := HN.out; omega
                      obtain ⟨b', off', hAA', hPI⟩ := HPI.out (by omega)
                      first | (subst hAA') | (cases hAA')
                      obtain ⟨f0, f1, f2⟩ := (hPI.next HB.out).2 r hrm
                      have hlo := HLO.out r hrm
                      have hnt := HNTT.out r hrm
                      have HTK := Lib.hid (show k ≤ r → m.take k ++ (newP a perm q ++ (m.drop k).take (r + 1 - k)) = (m.take k ++ (newP a perm q ++ (m.drop k).take (r - k))) ++ [m[r]] from fun h => by
                        rw [show r + 1 - k = (r - k) + 1 by omega, List.take_succ_eq_append_getElem (by rw [List.length_drop]; omega), List.getElem_drop]
                        simp only [show k + (r - k) = r by omega, List.append_assoc])
                      have HLN := Lib.hid (show (m.take k ++ (newP a perm q ++ (m.drop k).take (r - k))).length ≤ 1000 by
                        rw [List.length_append, List.length_append, newP_length]
                        have h1 := List.length_take_le k m
                        have h2 := List.length_take_le' (r - k) (m.drop k)
                        rw [List.length_drop] at h2
                        have := HN.out
                        have := HLE.out
                        omega)
                      have HOA := Lib.hid (HO.out.alloc (.cells #[.int .u64 (m[r]).a, .int .i64 (m[r]).p, .string (m[r]).d] 70))
                      have HPO := Lib.hid (one_page wr m[r])
                      have HBA := Lib.hid (balloc HB.out (.cells #[.int .u64 (m[r]).a, .int .i64 (m[r]).p, .string (m[r]).d] 70))
                      obtain ⟨⟨xa, xp, xd⟩, hx⟩ : ∃ x, m[r] = x := ⟨_, rfl⟩
                      rw [hx] at f0 f1 f2 hlo hnt HTK HOA HPO HBA
                      simp only at f0 f1 f2 hlo hnt HOA HPO HBA
                      have r0 : (0 : Int) ≤ (r : Int) := Int.natCast_nonneg _
                      have r1 : (r : Int) < (nv : Int) := by omega
                      by_cases hup : a < xa
                      · have hup2 : decide (a < xa) = true := by simpa using hup
                        have hkr : k ≤ r := by
                          apply Classical.byContradiction
                          intro h
                          have := hlo.2 (by omega)
                          omega
                        first
                          | (exfalso; omega)
                          | (clear hx hPI hlo hnt
                             go_wp2_with ((
                               at_builtin
                               refine wpList_append_pages rfl _ _ rfl w.heap.size _ _ [⟨xa, xp, xd⟩] rfl HOA.out _ rfl HPO.out (by have h := HLN.out; have h2 : ([⟨xa, xp, xd⟩] : List M.Pg).length = 1 := rfl; rw [h2]; omega) (by have := HB.out.size; simp; omega) ?_
                               intro v' w3 hown hgrow
                               have HO3 := Lib.hid hown
                               have HB3 := Lib.hid (own_grown HBA.out HOA.out hgrow)
                               clear hown hgrow))
                             go_roundw
                             case rel => exact ⟨r + 1, by omega, by go_num, by rw [HTK.out hkr]; exact HO3.out, HB3.out⟩
                             case measure => simp [intOf]; omega)
                      · have hup2 : decide (a < xa) = false := by simpa using hup
                        have hrk : r < k := hlo.1 (by omega)
                        have HSM := Lib.hid (show (m.drop k).take (r + 1 - k) = (m.drop k).take (r - k) by rw [show r + 1 - k = r - k by omega])
                        clear hx hPI hlo hnt
                        go_wp2_with fail
                        go_roundw
                        case rel => exact ⟨r + 1, by omega, by go_num, by rw [HSM.out]; exact HO.out, HB.out⟩
                        case measure => simp [intOf]; omega
                    · obtain rfl : r = nv := by omega
                      have HFIN := Lib.hid (show (m.drop k).take (r - k) = m.drop k from List.take_of_length_le (by rw [List.length_drop]; have := HN.out; omega))
                      have r1 : ¬ (r : Int) < (r : Int) := by omega
                      go_wp2_with fail
                      go_ret2
                      exact ⟨_, by rw [HF.out.1]; rfl, by rw [HF.out.2, ← HFIN.out]; exact HO.out.pages, HB.out⟩
theorem refMap_any {m : List M.Pg} {v : Value} (a n perm : Int) {w : World} (hP : Pages w v m) (hw : Wf m) (a0 : 0 ≤ a) (a1 : a ≤ 18446744073709551615) :
    Calls Try.prog 12 #[v, .int .u64 a, .int .i64 n, .int .i64 perm] w (RefPages (mapM m a n perm) (mapErr m a n perm) w) := by
  cases h : mapArg m a n perm
  · exact refMap_bad a n perm hP hw a0 a1 h
  · obtain ⟨N, rfl⟩ := Int.eq_ofNat_of_zero_le (show 0 ≤ n by have := (mapArg_parts.1 h).2.2.1; omega)
    exact refMap_good a perm N hP hw a0 a1 h
end Go.Proofs.Ytpifndpbmjmglaa
namespace Go.Proofs.Ytpifndpbmjmglaa.E
namespace M
def fmL : List Nat := [0, 0, 0, 0, 0, 0, 0, 0, 0, 0, 0, 0, 1, 1, 1, 1, 1, 2, 2, 1, 1, 3, 3, 4, 4, 4, 4, 5, 5, 6, 1, 7]
def opL : List Int := [0, 51, 51, 51, 51, 51, 51, 51, 51, 51, 51, 51, 19, 19, 19, 19, 19, 19, 19, 3, 3, 35, 35, 99, 99, 99, 99, 55, 23, 111, 103, 115]
def f3L : List Int := [0, 0, 0, 1, 3, 4, 5, 6, 7, 0, 5, 7, 0, 3, 4, 6, 7, 1, 5, 3, 4, 3, 0, 0, 1, 6, 7, 0, 0, 0, 0, 0]
def f7L : List Int := [0, 0, 32, 0, 0, 0, 0, 0, 0, 1, 1, 1, 0, 0, 0, 0, 0, 0, 0, 0, 0, 0, 0, 0, 0, 0, 0, 0, 0, 0, 0, 0]
def fm (k : Nat) : Nat := fmL.getD k 0
def op (k : Nat) : Int := opL.getD k 0
def f3 (k : Nat) : Int := f3L.getD k 0
def f7 (k : Nat) : Int := f7L.getD k 0
def hasRd (f : Nat) : Bool := [true, true, true, false, false, true, true, false].getD f false
def hasA (f : Nat) : Bool := [true, true, true, true, true, false, false, false].getD f false
def hasB (f : Nat) : Bool := [true, false, false, true, true, false, false, false].getD f false
def lo (f : Nat) : Int := [0, -2048, 0, -2048, -4096, -2147483648, -1048576, 0].getD f 0
def hi (f : Nat) : Int := [0, 2047, 63, 2047, 4094, 2147479552, 1048574, 0].getD f 0
def mu (f : Nat) : Int := [1, 1, 1, 1, 2, 4096, 2, 1].getD f 1
def reg (r : Int) (has : Bool) : Bool := if has then decide (0 ≤ r ∧ r < 32) else decide (r = 0)
def imm (n l h m : Int) : Bool := decide (l ≤ n ∧ n ≤ h ∧ n % m = 0)
/-- may an instruction of kind k (1 to 31) be? -/
def may (k : Nat) (rd a b n : Int) : Bool :=
  reg rd (hasRd (fm k)) && (reg a (hasA (fm k)) && (reg b (hasB (fm k)) && imm n (lo (fm k)) (hi (fm k)) (mu (fm k))))
def lay (f : Nat) (n : Int) : Int :=
  match f with
  | 1 | 2 => n % 4096 * 1048576
  | 3 => n % 32 * 128 + n / 32 % 128 * 33554432
  | 4 => n / 2048 % 2 * 128 + n / 2 % 16 * 256 + n / 32 % 64 * 33554432 + n / 4096 % 2 * 2147483648
  | 5 => n / 4096 % 1048576 * 4096
  | 6 => n / 4096 % 256 * 4096 + n / 2048 % 2 * 1048576 + n / 2 % 1024 * 2097152 + n / 1048576 % 2 * 2147483648
  | _ => 0
def word (k : Nat) (rd a b n : Int) : Int := op k + f3 k * 4096 + f7 k * 33554432 + rd * 128 + a * 32768 + b * 1048576 + lay (fm k) n
def sg (v h : Int) : Int := if v < h then v else v - 2 * h
def takeImm (f : Nat) (w : Int) : Int :=
  match f with
  | 1 | 2 => sg (w / 1048576 % 4096) 2048
  | 3 => sg (w / 128 % 32 + w / 33554432 % 128 * 32) 2048
  | 4 => sg (w / 128 % 2 * 2048 + w / 256 % 16 * 2 + w / 33554432 % 64 * 32 + w / 2147483648 % 2 * 4096) 4096
  | 5 => sg (w / 4096 % 1048576 * 4096) 2147483648
  | 6 => sg (w / 4096 % 256 * 4096 + w / 1048576 % 2 * 2048 + w / 2097152 % 1024 * 2 + w / 2147483648 % 2 * 1048576) 1048576
  | _ => 0
def tRd (k : Nat) (w : Int) : Int := if hasRd (fm k) then w / 128 % 32 else 0
def tA (k : Nat) (w : Int) : Int := if hasA (fm k) then w / 32768 % 32 else 0
def tB (k : Nat) (w : Int) : Int := if hasB (fm k) then w / 1048576 % 32 else 0
def tI (k : Nat) (w : Int) : Int := takeImm (fm k) w
/-- w is the word of the instruction that it has when read as one of kind k, and that may be -/
def okAt (w : Int) (k : Nat) : Bool := may k (tRd k w) (tA k w) (tB k w) (tI k w) && decide (word k (tRd k w) (tA k w) (tB k w) (tI k w) = w)
theorem split {P : Nat → Prop} (h : ∀ k ∈ List.range 32, P k) {k : Nat} (hk : k < 32) : P k := h k (by simp [hk])
end M
end Go.Proofs.Ytpifndpbmjmglaa.E
namespace Go.Proofs.Ytpifndpbmjmglaa.E
open Go.RowKit
namespace M
theorem and1 {x : Int} (h0 : 0 ≤ x) (h1 : x < 4294967296) : bits .and .u32 x 1 = x % 2 := by
  rw [u32_and x 1 h0 h1 (by omega) (by omega)]; simp only [Int.reduceToNat, nat_mask1]; omega
theorem and15 {x : Int} (h0 : 0 ≤ x) (h1 : x < 4294967296) : bits .and .u32 x 15 = x % 16 := by
  rw [u32_and x 15 h0 h1 (by omega) (by omega)]; simp only [Int.reduceToNat, nat_mask4]; omega
theorem and31 {x : Int} (h0 : 0 ≤ x) (h1 : x < 4294967296) : bits .and .u32 x 31 = x % 32 := by
  rw [u32_and x 31 h0 h1 (by omega) (by omega)]; simp only [Int.reduceToNat, nat_mask5]; omega
theorem and63 {x : Int} (h0 : 0 ≤ x) (h1 : x < 4294967296) : bits .and .u32 x 63 = x % 64 := by
  rw [u32_and x 63 h0 h1 (by omega) (by omega)]; simp only [Int.reduceToNat, nat_mask6]; omega
theorem and127 {x : Int} (h0 : 0 ≤ x) (h1 : x < 4294967296) : bits .and .u32 x 127 = x % 128 := by
  rw [u32_and x 127 h0 h1 (by omega) (by omega)]; simp only [Int.reduceToNat, nat_mask7]; omega
theorem and255 {x : Int} (h0 : 0 ≤ x) (h1 : x < 4294967296) : bits .and .u32 x 255 = x % 256 := by
  rw [u32_and x 255 h0 h1 (by omega) (by omega)]; simp only [Int.reduceToNat, nat_mask8]; omega
theorem and1023 {x : Int} (h0 : 0 ≤ x) (h1 : x < 4294967296) : bits .and .u32 x 1023 = x % 1024 := by
  rw [u32_and x 1023 h0 h1 (by omega) (by omega)]; simp only [Int.reduceToNat, nat_mask10]; omega
theorem and4095 {x : Int} (h0 : 0 ≤ x) (h1 : x < 4294967296) : bits .and .u32 x 4095 = x % 4096 := by
  rw [u32_and x 4095 h0 h1 (by omega) (by omega)]; simp only [Int.reduceToNat, nat_mask12]; omega
theorem and1048575 {x : Int} (h0 : 0 ≤ x) (h1 : x < 4294967296) : bits .and .u32 x 1048575 = x % 1048576 := by
  rw [u32_and x 1048575 h0 h1 (by omega) (by omega)]; simp only [Int.reduceToNat, nat_mask20]; omega
theorem or_lo (i : Nat) (S : Nat) (hS : 2 ^ i = S) {x y : Int} (x0 : 0 ≤ x) (x1 : x < 4294967296) (hx : x % (S : Int) = 0) (y0 : 0 ≤ y) (y1 : y < (S : Int)) (y2 : y < 4294967296) : bits .or .u32 y x = y + x := by
  obtain ⟨X, rfl⟩ := Int.eq_ofNat_of_zero_le x0
  obtain ⟨Y, rfl⟩ := Int.eq_ofNat_of_zero_le y0
  rw [u32_or_nat Y X (by omega) (by omega), Nat.or_comm, nat_join i X Y (by rw [hS]; omega) (by rw [hS]; omega)]; omega
theorem lay1 (n : Int) : bits .and .u32 (n % 4294967296) 4095 * 1048576 % 4294967296 = lay 1 n := by
  rw [and4095 (by omega) (by omega)]; simp only [lay]; omega
theorem lay3 (n : Int) : bits .or .u32 (bits .and .u32 (n % 4294967296) 31 * 128 % 4294967296) (bits .and .u32 (n % 4294967296 / 32) 127 * 33554432 % 4294967296) = lay 3 n := by
  rw [and31 (by omega) (by omega), and127 (by omega) (by omega)]
  have e1 : n % 4294967296 % 32 = n % 32 := by omega
  have e2 : n % 4294967296 / 32 % 128 = n / 32 % 128 := by omega
  rw [e1, e2]
  simp only [lay]
  have := Int.emod_nonneg n (b := 32) (by omega)
  have := Int.emod_lt_of_pos n (b := 32) (by omega)
  have := Int.emod_nonneg (n / 32) (b := 128) (by omega)
  have := Int.emod_lt_of_pos (n / 32) (b := 128) (by omega)
  generalize n % 32 = p at *
  generalize n / 32 % 128 = q at *
  rw [Int.emod_eq_of_lt (a := p * 128) (by omega) (by omega), Int.emod_eq_of_lt (a := q * 33554432) (by omega) (by omega), or_lo 25 33554432 rfl (x := q * 33554432) (by omega) (by omega) (by omega) (by omega) (by omega) (by omega)]
theorem lay4 (n : Int) : bits .or .u32 (bits .or .u32 (bits .or .u32 (bits .and .u32 (n % 4294967296 / 2048) 1 * 128 % 4294967296) (bits .and .u32 (n % 4294967296 / 2) 15 * 256 % 4294967296))
    (bits .and .u32 (n % 4294967296 / 32) 63 * 33554432 % 4294967296)) (bits .and .u32 (n % 4294967296 / 4096) 1 * 2147483648 % 4294967296) = lay 4 n := by
  rw [and1 (by omega) (by omega), and15 (by omega) (by omega), and63 (by omega) (by omega), and1 (by omega) (by omega)]
  have e1 : n % 4294967296 / 2048 % 2 = n / 2048 % 2 := by omega
  have e2 : n % 4294967296 / 2 % 16 = n / 2 % 16 := by omega
  have e3 : n % 4294967296 / 32 % 64 = n / 32 % 64 := by omega
  have e4 : n % 4294967296 / 4096 % 2 = n / 4096 % 2 := by omega
  rw [e1, e2, e3, e4]
  simp only [lay]
  have a1 := Int.emod_nonneg (n / 2048) (b := 2) (by omega)
  have a2 := Int.emod_lt_of_pos (n / 2048) (b := 2) (by omega)
  have a3 := Int.emod_nonneg (n / 2) (b := 16) (by omega)
  have a4 := Int.emod_lt_of_pos (n / 2) (b := 16) (by omega)
  have a5 := Int.emod_nonneg (n / 32) (b := 64) (by omega)
  have a6 := Int.emod_lt_of_pos (n / 32) (b := 64) (by omega)
  have a7 := Int.emod_nonneg (n / 4096) (b := 2) (by omega)
  have a8 := Int.emod_lt_of_pos (n / 4096) (b := 2) (by omega)
  clear e1 e2 e3 e4
  generalize n / 2048 % 2 = p at *
  generalize n / 2 % 16 = q at *
  generalize n / 32 % 64 = r at *
  generalize n / 4096 % 2 = s at *
  rw [Int.emod_eq_of_lt (a := p * 128) (by omega) (by omega), Int.emod_eq_of_lt (a := q * 256) (by omega) (by omega), Int.emod_eq_of_lt (a := r * 33554432) (by omega) (by omega), Int.emod_eq_of_lt (a := s * 2147483648) (by omega) (by omega),
    or_lo 8 256 rfl (x := q * 256) (by omega) (by omega) (by omega) (by omega) (by omega) (by omega), or_lo 25 33554432 rfl (x := r * 33554432) (by omega) (by omega) (by omega) (by omega) (by omega) (by omega), or_lo 31 2147483648 rfl (x := s * 2147483648) (by omega) (by omega) (by omega) (by omega) (by omega) (by omega)]
theorem lay5 (n : Int) : bits .and .u32 (n % 4294967296 / 4096) 1048575 * 4096 % 4294967296 = lay 5 n := by
  rw [and1048575 (by omega) (by omega)]; simp only [lay]; omega
theorem lay6 (n : Int) : bits .or .u32 (bits .or .u32 (bits .or .u32 (bits .and .u32 (n % 4294967296 / 4096) 255 * 4096 % 4294967296) (bits .and .u32 (n % 4294967296 / 2048) 1 * 1048576 % 4294967296))
    (bits .and .u32 (n % 4294967296 / 2) 1023 * 2097152 % 4294967296)) (bits .and .u32 (n % 4294967296 / 1048576) 1 * 2147483648 % 4294967296) = lay 6 n := by
  rw [and255 (by omega) (by omega), and1 (by omega) (by omega), and1023 (by omega) (by omega), and1 (by omega) (by omega)]
  have e1 : n % 4294967296 / 4096 % 256 = n / 4096 % 256 := by omega
  have e2 : n % 4294967296 / 2048 % 2 = n / 2048 % 2 := by omega
  have e3 : n % 4294967296 / 2 % 1024 = n / 2 % 1024 := by omega
  have e4 : n % 4294967296 / 1048576 % 2 = n / 1048576 % 2 := by omega
  rw [e1, e2, e3, e4]
  simp only [lay]
  have a1 := Int.emod_nonneg (n / 4096) (b := 256) (by omega)
  have a2 := Int.emod_lt_of_pos (n / 4096) (b := 256) (by omega)
  have a3 := Int.emod_nonneg (n / 2048) (b := 2) (by omega)
  have a4 := Int.emod_lt_of_pos (n / 2048) (b := 2) (by omega)
  have a5 := Int.emod_nonneg (n / 2) (b := 1024) (by omega)
  have a6 := Int.emod_lt_of_pos (n / 2) (b := 1024) (by omega)
  have a7 := Int.emod_nonneg (n / 1048576) (b := 2) (by omega)
  have a8 := Int.emod_lt_of_pos (n / 1048576) (b := 2) (by omega)
  clear e1 e2 e3 e4
  generalize n / 4096 % 256 = p at *
  generalize n / 2048 % 2 = q at *
  generalize n / 2 % 1024 = r at *
  generalize n / 1048576 % 2 = s at *
  rw [Int.emod_eq_of_lt (a := p * 4096) (by omega) (by omega), Int.emod_eq_of_lt (a := q * 1048576) (by omega) (by omega), Int.emod_eq_of_lt (a := r * 2097152) (by omega) (by omega), Int.emod_eq_of_lt (a := s * 2147483648) (by omega) (by omega),
    or_lo 20 1048576 rfl (x := q * 1048576) (by omega) (by omega) (by omega) (by omega) (by omega) (by omega), or_lo 21 2097152 rfl (x := r * 2097152) (by omega) (by omega) (by omega) (by omega) (by omega) (by omega), or_lo 31 2147483648 rfl (x := s * 2147483648) (by omega) (by omega) (by omega) (by omega) (by omega) (by omega)]
end M
end Go.Proofs.Ytpifndpbmjmglaa.E
