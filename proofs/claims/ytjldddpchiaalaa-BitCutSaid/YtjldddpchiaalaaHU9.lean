/- What the texts of package resolve stand on, of the packages ir and pick (part 10). -/
import Derived.Test.YtjldddpchiaalaaHU8
namespace Go.Proofs.Ytjldddpchiaalaa
open Go.RowKit
def listB {α : Type} (p : α → α → Bool) (a b : List α) : Bool := (a.length == b.length) && (a.zip b).all (fun x => p x.1 x.2)
def sameT (t u : Tm) : Bool := t.k == u.k && t.a == u.a && t.t == u.t && decide (t.l = u.l) && t.e == u.e && decide (t.m = u.m)
def sameB (x y : Bk) : Bool := x.p == y.p && listB sameI x.i y.i && sameT x.e y.e
def sameF (x y : Fn) : Bool := x.s == y.s && x.b == y.b && x.p == y.p && listB sameB x.l y.l
def sameG (x y : Gl) : Bool := x.s == y.s && x.b == y.b && x.h == y.h && x.i == y.i
def sameM (m k : Md) : Bool := listB sameF m.f k.f && listB sameG m.g k.g
theorem listB_len {α : Type} {p : α → α → Bool} {a b : List α} (h : a.length ≠ b.length) : listB p a b = false := by
  unfold listB
  rw [show (a.length == b.length) = false by simpa using h]
  rfl
theorem zip_take {α : Type} {p : α → α → Bool} {a b : List α} {i : Nat} (ha : i < a.length) (hb : i < b.length) (h : ((a.take i).zip (b.take i)).all (fun x => p x.1 x.2) = true) :
    ((a.take (i + 1)).zip (b.take (i + 1))).all (fun x => p x.1 x.2) = p a[i] b[i] := by
  rw [List.take_succ_eq_append_getElem ha, List.take_succ_eq_append_getElem hb, List.zip_append (by simp; omega), List.all_append, h]
  simp
theorem zip_no {α : Type} {p : α → α → Bool} {a b : List α} {i : Nat} (ha : i < a.length) (hb : i < b.length) (h : p a[i] b[i] = false) : listB p a b = false := by
  unfold listB
  have : (a.zip b).all (fun x => p x.1 x.2) = false := by
    rw [List.all_eq_false]
    exact ⟨(a.zip b)[i]'(by simp; omega), List.getElem_mem _, by rw [List.getElem_zip]; simp [h]⟩
  rw [this, Bool.and_false]
theorem zip_all {α : Type} {p : α → α → Bool} {a b : List α} {n : Nat} (ha : a.length = n) (hb : b.length = n) (h : ((a.take n).zip (b.take n)).all (fun x => p x.1 x.2) = true) : listB p a b = true := by
  rw [List.take_of_length_le (by omega), List.take_of_length_le (by omega)] at h
  unfold listB
  rw [h, ha, hb]
  simp
end Go.Proofs.Ytjldddpchiaalaa
namespace Go.Proofs.Ytjldddpchiaalaa
open Go.RowKit
theorem sameG_eq (s s' : ByteArray) (b i b' i' : Int) (h h' : Bool) : sameG ⟨s, b, h, i⟩ ⟨s', b', h', i'⟩ = ((s == s') && (b == b') && (h == h') && (i == i')) := rfl
set_option maxRecDepth 100000 in
set_option maxHeartbeats 8000000 in
theorem refSameInst_any (p a b k p' a' b' k' : Int) (s s' : ByteArray) (l l' : List Int) (A A' : Option Addr) (n c n' c' : Nat) (w : World) (h9 : n ≤ 9223372036854775807) (h9' : n' ≤ 9223372036854775807) (hS : Ints w (.slice A n c) l) (hS' : Ints w (.slice A' n' c') l') :
    Calls Try.prog 66 #[.agg #[.int .i64 p, .int .i64 a, .int .i64 b, .int .u64 k, .string s, .slice A n c], .agg #[.int .i64 p', .int .i64 a', .int .i64 b', .int .u64 k', .string s', .slice A' n' c']] w fun E w' => E = .returned (.bool (sameI ⟨p, a, b, k, s, l⟩ ⟨p', a', b', k', s', l'⟩)) ∧ Below w.heap.size w w' := by
  have HC1 := Lib.hid (fun (W : World) (hb : Below w.heap.size w W) => refInts_any l l' A A' n n' c c' W (hS.next hb) (hS'.next hb) h9 h9')
  clear hS hS' h9 h9'
  obtain ⟨V, hV⟩ : ∃ V, sameI ⟨p, a, b, k, s, l⟩ ⟨p', a', b', k', s', l'⟩ = V := ⟨_, rfl⟩
  have HE := Lib.hid (show V = ((p == p') && (a == a') && (b == b') && (k == k') && (s == s') && decide (l = l')) from hV.symm)
  rw [hV]
  clear hV
  go_enter Try.func66, Try.ntmps66
  go_upto_region 1 with fail
  have HX := Lib.hid (show ((w.alloc (.cells #[.int .i64 p, .int .i64 a, .int .i64 b, .int .u64 k, .string s, .slice A n c] 76)).alloc (.cells #[.int .i64 p', .int .i64 a', .int .i64 b', .int .u64 k', .string s', .slice A' n' c'] 76)).heap[w.heap.size]? = some (.cells #[.int .i64 p, .int .i64 a, .int .i64 b, .int .u64 k, .string s, .slice A n c] 76 (0, 0)) from ((balloc (Below.refl _ _) (.cells #[.int .i64 p', .int .i64 a', .int .i64 b', .int .u64 k', .string s', .slice A' n' c'] 76)).block w.heap.size (Array.getElem?_eq_some_iff.1 (heap_alloc_new w (.cells #[.int .i64 p, .int .i64 a, .int .i64 b, .int .u64 k, .string s, .slice A n c] 76))).1).trans (heap_alloc_new w (.cells #[.int .i64 p, .int .i64 a, .int .i64 b, .int .u64 k, .string s, .slice A n c] 76)))
  have HY := Lib.hid (show ((w.alloc (.cells #[.int .i64 p, .int .i64 a, .int .i64 b, .int .u64 k, .string s, .slice A n c] 76)).alloc (.cells #[.int .i64 p', .int .i64 a', .int .i64 b', .int .u64 k', .string s', .slice A' n' c'] 76)).heap[w.heap.size + 1]? = some (.cells #[.int .i64 p', .int .i64 a', .int .i64 b', .int .u64 k', .string s', .slice A' n' c'] 76 (0, 0)) from by
    have e := heap_alloc_new (w.alloc (.cells #[.int .i64 p, .int .i64 a, .int .i64 b, .int .u64 k, .string s, .slice A n c] 76)) (.cells #[.int .i64 p', .int .i64 a', .int .i64 b', .int .u64 k', .string s', .slice A' n' c'] 76)
    rwa [World.size_alloc] at e)
  have HB := Lib.hid (boxes2 w #[.int .i64 p, .int .i64 a, .int .i64 b, .int .u64 k, .string s, .slice A n c] #[.int .i64 p', .int .i64 a', .int .i64 b', .int .u64 k', .string s', .slice A' n' c'] 76)
  generalize (w.alloc (.cells #[.int .i64 p, .int .i64 a, .int .i64 b, .int .u64 k, .string s, .slice A n c] 76)).alloc (.cells #[.int .i64 p', .int .i64 a', .int .i64 b', .int .u64 k', .string s', .slice A' n' c'] 76) = W0 at *
  have c0 := Lib.cell_of_heap HX.out 0
  have c1 := Lib.cell_of_heap HX.out 1
  have c2 := Lib.cell_of_heap HX.out 2
  have c3 := Lib.cell_of_heap HX.out 3
  have c4 := Lib.cell_of_heap HX.out 4
  have c5 := Lib.cell_of_heap HX.out 5
  simp only [List.getElem?_toArray, List.getElem?_cons_zero, List.getElem?_cons_succ] at c0 c1 c2 c3 c4 c5
  have d0 := Lib.cell_of_heap HY.out 0
  have d1 := Lib.cell_of_heap HY.out 1
  have d2 := Lib.cell_of_heap HY.out 2
  have d3 := Lib.cell_of_heap HY.out 3
  have d4 := Lib.cell_of_heap HY.out 4
  have d5 := Lib.cell_of_heap HY.out 5
  simp only [List.getElem?_toArray, List.getElem?_cons_zero, List.getElem?_cons_succ] at d0 d1 d2 d3 d4 d5
  go_wp2_with fail
  refine (HC1.out _ HB.out).mono ?_
  rintro r u0 ⟨rfl, hb0⟩
  have HB0 := Lib.hid (bthen HB.out hb0)
  have HX0 := Lib.hid ((hb0.block _ (Array.getElem?_eq_some_iff.1 HX.out).1).trans HX.out)
  have HY0 := Lib.hid ((hb0.block _ (Array.getElem?_eq_some_iff.1 HY.out).1).trans HY.out)
  clear hb0 c0 d0 c1 d1 c2 d2 c3 d3 c4 d4 c5 d5
  obtain ⟨q0, hq0⟩ : ∃ q, decide (l = l') = q := ⟨_, rfl⟩
  rw [hq0] at HE ⊢
  clear hq0
  have c0 := Lib.cell_of_heap HX0.out 0
  have c1 := Lib.cell_of_heap HX0.out 1
  have c2 := Lib.cell_of_heap HX0.out 2
  have c3 := Lib.cell_of_heap HX0.out 3
  have c4 := Lib.cell_of_heap HX0.out 4
  have c5 := Lib.cell_of_heap HX0.out 5
  simp only [List.getElem?_toArray, List.getElem?_cons_zero, List.getElem?_cons_succ] at c0 c1 c2 c3 c4 c5
  have d0 := Lib.cell_of_heap HY0.out 0
  have d1 := Lib.cell_of_heap HY0.out 1
  have d2 := Lib.cell_of_heap HY0.out 2
  have d3 := Lib.cell_of_heap HY0.out 3
  have d4 := Lib.cell_of_heap HY0.out 4
  have d5 := Lib.cell_of_heap HY0.out 5
  simp only [List.getElem?_toArray, List.getElem?_cons_zero, List.getElem?_cons_succ] at d0 d1 d2 d3 d4 d5
  cases q0 with
  | false =>
    have HV := Lib.hid (show V = false by rw [HE.out]; simp)
    go_wp2_with fail
    go_ret
    exact ⟨by rw [HV.out]; rfl, HB0.out⟩
  | true =>
    by_cases h1 : p = p'
    case neg =>
      have n1 : (p == p') = false := by simpa using h1
      have HV := Lib.hid (show V = false by rw [HE.out, n1]; simp)
      go_wp2_with fail
      go_ret
      exact ⟨by rw [HV.out]; rfl, HB0.out⟩
    have p1 : (p == p') = true := by simpa using h1
    rw [p1] at HE
    clear h1
    by_cases h2 : a = a'
    case neg =>
      have n2 : (a == a') = false := by simpa using h2
      have HV := Lib.hid (show V = false by rw [HE.out, n2]; simp)
      go_wp2_with fail
      go_ret
      exact ⟨by rw [HV.out]; rfl, HB0.out⟩
    have p2 : (a == a') = true := by simpa using h2
    rw [p2] at HE
    clear h2
    by_cases h3 : b = b'
    case neg =>
      have n3 : (b == b') = false := by simpa using h3
      have HV := Lib.hid (show V = false by rw [HE.out, n3]; simp)
      go_wp2_with fail
      go_ret
      exact ⟨by rw [HV.out]; rfl, HB0.out⟩
    have p3 : (b == b') = true := by simpa using h3
    rw [p3] at HE
    clear h3
    by_cases h4 : k = k'
    case neg =>
      have n4 : (k == k') = false := by simpa using h4
      have HV := Lib.hid (show V = false by rw [HE.out, n4]; simp)
      go_wp2_with fail
      go_ret
      exact ⟨by rw [HV.out]; rfl, HB0.out⟩
    have p4 : (k == k') = true := by simpa using h4
    rw [p4] at HE
    clear h4
    cases h5 : s == s' with
    | false =>
      have n5 : (s.toList == s'.toList) = false := by rw [← beq_toListBytes]; exact h5
      have HV := Lib.hid (show V = false by rw [HE.out, h5]; simp)
      go_wp2_with fail
      go_ret
      exact ⟨by rw [HV.out]; rfl, HB0.out⟩
    | true =>
      have n5 : (s.toList == s'.toList) = true := by rw [← beq_toListBytes]; exact h5
      rw [h5] at HE
      clear h5
      have HV := Lib.hid (show V = true by rw [HE.out]; rfl)
      go_wp2_with fail
      go_ret
      exact ⟨by rw [HV.out]; rfl, HB0.out⟩
theorem sameB_swap (x1 x2 x3 x4 x5 x6 x7 x8 : Bool) : (x1 && x2 && (x3 && x4 && x5 && x6 && x7 && x8)) = (x6 && x8 && x1 && x3 && x4 && x5 && x7 && x2) := by
  cases x1 <;> cases x2 <;> cases x3 <;> cases x4 <;> cases x5 <;> cases x6 <;> cases x7 <;> cases x8 <;> rfl
set_option maxRecDepth 100000 in
set_option maxHeartbeats 8000000 in
theorem refSameBlock_any (p k a t e p' k' a' t' e' : Int) (xs ys : List In) (l h l' h' : List Int) (A B C A' B' C' : Option Addr) (q c m d n s q' c' m' d' n' s' : Nat) (w : World) (hr : xs.length = n) (hr' : ys.length = n') (hr9 : n ≤ 9223372036854775807) (_hr9' : n' ≤ 9223372036854775807) (hoi : ∀ x ∈ xs, x.l.length ≤ 9223372036854775807) (hoi' : ∀ x ∈ ys, x.l.length ≤ 9223372036854775807) (h9 : q ≤ 9223372036854775807) (h9' : m ≤ 9223372036854775807) (h8 : q' ≤ 9223372036854775807) (h8' : m' ≤ 9223372036854775807) (hI : Insts w (.slice C n s) xs) (hI' : Insts w (.slice C' n' s') ys) (hS : Ints w (.slice A q c) l) (hS' : Ints w (.slice A' q' c') l') (hR : Ints w (.slice B m d) h) (hR' : Ints w (.slice B' m' d') h') :
    Calls Try.prog 44 #[.agg #[.int .i64 p, .slice C n s, .int .i64 k, .int .i64 a, .int .i64 t, .slice A q c, .int .i64 e, .slice B m d], .agg #[.int .i64 p', .slice C' n' s', .int .i64 k', .int .i64 a', .int .i64 t', .slice A' q' c', .int .i64 e', .slice B' m' d']] w fun E w' => E = .returned (.bool (sameB ⟨p, xs, ⟨k, a, t, l, e, h⟩⟩ ⟨p', ys, ⟨k', a', t', l', e', h'⟩⟩)) ∧ Below w.heap.size w w' := by
  have HC1 := Lib.hid (fun (W : World) (hb : Below w.heap.size w W) => refInts_any l l' A A' q q' c c' W (hS.next hb) (hS'.next hb) h9 h8)
  have HC2 := Lib.hid (fun (W : World) (hb : Below w.heap.size w W) => refInts_any h h' B B' m m' d d' W (hR.next hb) (hR'.next hb) h9' h8')
  have HN := Lib.hid (show xs.length ≤ n ∧ n ≤ xs.length by omega)
  have HN' := Lib.hid (show ys.length ≤ n' ∧ n' ≤ ys.length by omega)
  have HS := Lib.hid hI
  have HS' := Lib.hid hI'
  have HOK := Lib.hid hoi
  have HOK' := Lib.hid hoi'
  have n1 : (n : Int) ≤ 9223372036854775807 := by omega
  clear hI hI' hS hS' hR hR' h9 h9' h8 h8' hr hr' hr9 hoi hoi'
  obtain ⟨V, hV⟩ : ∃ V, sameB ⟨p, xs, ⟨k, a, t, l, e, h⟩⟩ ⟨p', ys, ⟨k', a', t', l', e', h'⟩⟩ = V := ⟨_, rfl⟩
  have HE := Lib.hid (show V = (decide (l = l') && decide (h = h') && (p == p') && (k == k') && (a == a') && (t == t') && (e == e') && listB sameI xs ys) from by rw [← hV]; unfold sameB sameT; simp only; rw [sameB_swap])
  rw [hV]
  clear hV
  go_enter Try.func44, Try.ntmps44
  go_upto_region 1 with fail
  have HX := Lib.hid (show ((w.alloc (.cells #[.int .i64 p, .slice C n s, .int .i64 k, .int .i64 a, .int .i64 t, .slice A q c, .int .i64 e, .slice B m d] 74)).alloc (.cells #[.int .i64 p', .slice C' n' s', .int .i64 k', .int .i64 a', .int .i64 t', .slice A' q' c', .int .i64 e', .slice B' m' d'] 74)).heap[w.heap.size]? = some (.cells #[.int .i64 p, .slice C n s, .int .i64 k, .int .i64 a, .int .i64 t, .slice A q c, .int .i64 e, .slice B m d] 74 (0, 0)) from ((balloc (Below.refl _ _) (.cells #[.int .i64 p', .slice C' n' s', .int .i64 k', .int .i64 a', .int .i64 t', .slice A' q' c', .int .i64 e', .slice B' m' d'] 74)).block w.heap.size (Array.getElem?_eq_some_iff.1 (heap_alloc_new w (.cells #[.int .i64 p, .slice C n s, .int .i64 k, .int .i64 a, .int .i64 t, .slice A q c, .int .i64 e, .slice B m d] 74))).1).trans (heap_alloc_new w (.cells #[.int .i64 p, .slice C n s, .int .i64 k, .int .i64 a, .int .i64 t, .slice A q c, .int .i64 e, .slice B m d] 74)))
  have HY := Lib.hid (show ((w.alloc (.cells #[.int .i64 p, .slice C n s, .int .i64 k, .int .i64 a, .int .i64 t, .slice A q c, .int .i64 e, .slice B m d] 74)).alloc (.cells #[.int .i64 p', .slice C' n' s', .int .i64 k', .int .i64 a', .int .i64 t', .slice A' q' c', .int .i64 e', .slice B' m' d'] 74)).heap[w.heap.size + 1]? = some (.cells #[.int .i64 p', .slice C' n' s', .int .i64 k', .int .i64 a', .int .i64 t', .slice A' q' c', .int .i64 e', .slice B' m' d'] 74 (0, 0)) from by
    have e := heap_alloc_new (w.alloc (.cells #[.int .i64 p, .slice C n s, .int .i64 k, .int .i64 a, .int .i64 t, .slice A q c, .int .i64 e, .slice B m d] 74)) (.cells #[.int .i64 p', .slice C' n' s', .int .i64 k', .int .i64 a', .int .i64 t', .slice A' q' c', .int .i64 e', .slice B' m' d'] 74)
    rwa [World.size_alloc] at e)
  have HB := Lib.hid (boxes2 w #[.int .i64 p, .slice C n s, .int .i64 k, .int .i64 a, .int .i64 t, .slice A q c, .int .i64 e, .slice B m d] #[.int .i64 p', .slice C' n' s', .int .i64 k', .int .i64 a', .int .i64 t', .slice A' q' c', .int .i64 e', .slice B' m' d'] 74)
  generalize (w.alloc (.cells #[.int .i64 p, .slice C n s, .int .i64 k, .int .i64 a, .int .i64 t, .slice A q c, .int .i64 e, .slice B m d] 74)).alloc (.cells #[.int .i64 p', .slice C' n' s', .int .i64 k', .int .i64 a', .int .i64 t', .slice A' q' c', .int .i64 e', .slice B' m' d'] 74) = W0 at *
  have c0 := Lib.cell_of_heap HX.out 0
  have c1 := Lib.cell_of_heap HX.out 1
  have c2 := Lib.cell_of_heap HX.out 2
  have c3 := Lib.cell_of_heap HX.out 3
  have c4 := Lib.cell_of_heap HX.out 4
  have c5 := Lib.cell_of_heap HX.out 5
  have c6 := Lib.cell_of_heap HX.out 6
  have c7 := Lib.cell_of_heap HX.out 7
  simp only [List.getElem?_toArray, List.getElem?_cons_zero, List.getElem?_cons_succ] at c0 c1 c2 c3 c4 c5 c6 c7
  have d0 := Lib.cell_of_heap HY.out 0
  have d1 := Lib.cell_of_heap HY.out 1
  have d2 := Lib.cell_of_heap HY.out 2
  have d3 := Lib.cell_of_heap HY.out 3
  have d4 := Lib.cell_of_heap HY.out 4
  have d5 := Lib.cell_of_heap HY.out 5
  have d6 := Lib.cell_of_heap HY.out 6
  have d7 := Lib.cell_of_heap HY.out 7
  simp only [List.getElem?_toArray, List.getElem?_cons_zero, List.getElem?_cons_succ] at d0 d1 d2 d3 d4 d5 d6 d7
  go_wp2_with fail
  refine (HC1.out _ HB.out).mono ?_
  rintro r u0 ⟨rfl, hb0⟩
  have HB0 := Lib.hid (bthen HB.out hb0)
  have HX0 := Lib.hid ((hb0.block _ (Array.getElem?_eq_some_iff.1 HX.out).1).trans HX.out)
  have HY0 := Lib.hid ((hb0.block _ (Array.getElem?_eq_some_iff.1 HY.out).1).trans HY.out)
  clear hb0 c0 d0 c1 d1 c2 d2 c3 d3 c4 d4 c5 d5 c6 d6 c7 d7
  obtain ⟨q0, hq0⟩ : ∃ q, decide (l = l') = q := ⟨_, rfl⟩
  rw [hq0] at HE ⊢
  clear hq0
  have c0 := Lib.cell_of_heap HX0.out 0
  have c1 := Lib.cell_of_heap HX0.out 1
  have c2 := Lib.cell_of_heap HX0.out 2
  have c3 := Lib.cell_of_heap HX0.out 3
  have c4 := Lib.cell_of_heap HX0.out 4
  have c5 := Lib.cell_of_heap HX0.out 5
  have c6 := Lib.cell_of_heap HX0.out 6
  have c7 := Lib.cell_of_heap HX0.out 7
  simp only [List.getElem?_toArray, List.getElem?_cons_zero, List.getElem?_cons_succ] at c0 c1 c2 c3 c4 c5 c6 c7
  have d0 := Lib.cell_of_heap HY0.out 0
  have d1 := Lib.cell_of_heap HY0.out 1
  have d2 := Lib.cell_of_heap HY0.out 2
  have d3 := Lib.cell_of_heap HY0.out 3
  have d4 := Lib.cell_of_heap HY0.out 4
  have d5 := Lib.cell_of_heap HY0.out 5
  have d6 := Lib.cell_of_heap HY0.out 6
  have d7 := Lib.cell_of_heap HY0.out 7
  simp only [List.getElem?_toArray, List.getElem?_cons_zero, List.getElem?_cons_succ] at d0 d1 d2 d3 d4 d5 d6 d7
  cases q0 with
  | false =>
    have HV := Lib.hid (show V = false by rw [HE.out]; simp)
    go_wp2_with fail
    go_ret
    exact ⟨by rw [HV.out]; rfl, HB0.out⟩
  | true =>
    go_wp2_with fail
    refine (HC2.out _ HB0.out).mono ?_
    rintro r u1 ⟨rfl, hb1⟩
    have HB1 := Lib.hid (bthen HB0.out hb1)
    have HX1 := Lib.hid ((hb1.block _ (Array.getElem?_eq_some_iff.1 HX0.out).1).trans HX0.out)
    have HY1 := Lib.hid ((hb1.block _ (Array.getElem?_eq_some_iff.1 HY0.out).1).trans HY0.out)
    clear hb1 c0 d0 c1 d1 c2 d2 c3 d3 c4 d4 c5 d5 c6 d6 c7 d7
    obtain ⟨q1, hq1⟩ : ∃ q, decide (h = h') = q := ⟨_, rfl⟩
    rw [hq1] at HE ⊢
    clear hq1
    have c0 := Lib.cell_of_heap HX1.out 0
    have c1 := Lib.cell_of_heap HX1.out 1
    have c2 := Lib.cell_of_heap HX1.out 2
    have c3 := Lib.cell_of_heap HX1.out 3
    have c4 := Lib.cell_of_heap HX1.out 4
    have c5 := Lib.cell_of_heap HX1.out 5
    have c6 := Lib.cell_of_heap HX1.out 6
    have c7 := Lib.cell_of_heap HX1.out 7
    simp only [List.getElem?_toArray, List.getElem?_cons_zero, List.getElem?_cons_succ] at c0 c1 c2 c3 c4 c5 c6 c7
    have d0 := Lib.cell_of_heap HY1.out 0
    have d1 := Lib.cell_of_heap HY1.out 1
    have d2 := Lib.cell_of_heap HY1.out 2
    have d3 := Lib.cell_of_heap HY1.out 3
    have d4 := Lib.cell_of_heap HY1.out 4
    have d5 := Lib.cell_of_heap HY1.out 5
    have d6 := Lib.cell_of_heap HY1.out 6
    have d7 := Lib.cell_of_heap HY1.out 7
    simp only [List.getElem?_toArray, List.getElem?_cons_zero, List.getElem?_cons_succ] at d0 d1 d2 d3 d4 d5 d6 d7
    cases q1 with
    | false =>
      have HV := Lib.hid (show V = false by rw [HE.out]; simp)
      go_wp2_with fail
      go_ret
      exact ⟨by rw [HV.out]; rfl, HB1.out⟩
    | true =>
      by_cases h2 : p = p'
      case neg =>
        have n2 : (p == p') = false := by simpa using h2
        have HV := Lib.hid (show V = false by rw [HE.out, n2]; simp)
        go_wp2_with fail
        go_ret
        exact ⟨by rw [HV.out]; rfl, HB1.out⟩
      subst h2
      rw [show (p == p) = true by simp] at HE
      by_cases hl : n = n'
      case neg =>
        have nl : ((n : Int) == (n' : Int)) = false := by simp; omega
        have HV := Lib.hid (show V = false by rw [HE.out, listB_len (by have := HN.out; have := HN'.out; omega)]; simp)
        go_wp2_with fail
        go_ret
        exact ⟨by rw [HV.out]; rfl, HB1.out⟩
      subst hl
      by_cases h4 : k = k'
      case neg =>
        have n4 : (k == k') = false := by simpa using h4
        have HV := Lib.hid (show V = false by rw [HE.out, n4]; simp)
        go_wp2_with fail
        go_ret
        exact ⟨by rw [HV.out]; rfl, HB1.out⟩
      subst h4
      rw [show (k == k) = true by simp] at HE
      by_cases h5 : a = a'
      case neg =>
        have n5 : (a == a') = false := by simpa using h5
        have HV := Lib.hid (show V = false by rw [HE.out, n5]; simp)
        go_wp2_with fail
        go_ret
        exact ⟨by rw [HV.out]; rfl, HB1.out⟩
      subst h5
      rw [show (a == a) = true by simp] at HE
      by_cases h6 : t = t'
      case neg =>
        have n6 : (t == t') = false := by simpa using h6
        have HV := Lib.hid (show V = false by rw [HE.out, n6]; simp)
        go_wp2_with fail
        go_ret
        exact ⟨by rw [HV.out]; rfl, HB1.out⟩
      subst h6
      rw [show (t == t) = true by simp] at HE
      by_cases h7 : e = e'
      case neg =>
        have n7 : (e == e') = false := by simpa using h7
        have HV := Lib.hid (show V = false by rw [HE.out, n7]; simp)
        go_wp2_with fail
        go_ret
        exact ⟨by rw [HV.out]; rfl, HB1.out⟩
      subst h7
      rw [show (e == e) = true by simp] at HE
      go_wp2_with fail
      clear c0 c1 c2 c3 c4 c5 c6 c7 d0 d1 d2 d3 d4 d5 d6 d7
      go_loopw [6] (fun iv wr => ∃ i : Nat, i ≤ n ∧ iv = .int .i64 i ∧ ((xs.take i).zip (ys.take i)).all (fun x => sameI x.1 x.2) = true ∧ wr.heap[w.heap.size]? = some (.cells #[.int .i64 p, .slice C n s, .int .i64 k, .int .i64 a, .int .i64 t, .slice A q c, .int .i64 e, .slice B m d] 74 (0, 0)) ∧ wr.heap[w.heap.size + 1]? = some (.cells #[.int .i64 p, .slice C' n s', .int .i64 k, .int .i64 a, .int .i64 t, .slice A' q' c', .int .i64 e, .slice B' m' d'] 74 (0, 0)) ∧ Below w.heap.size w wr) (fun iv _ => n - (intOf iv).toNat)
      case atStart => exact ⟨0, Nat.zero_le _, rfl, by simp, HX1.out, HY1.out, HB1.out⟩
      case round =>
        obtain ⟨i, hi, rfl, hs, hxx, hyy, hb⟩ := hrel
        have HT := Lib.hid hs
        have HXX := Lib.hid hxx
        have HYY := Lib.hid hyy
        have HBB := Lib.hid hb
        have c1 := Lib.cell_of_heap hxx 1
        simp only [List.getElem?_toArray, List.getElem?_cons_zero, List.getElem?_cons_succ] at c1
        have d1 := Lib.cell_of_heap hyy 1
        simp only [List.getElem?_toArray, List.getElem?_cons_zero, List.getElem?_cons_succ] at d1
        clear hs hxx hyy
        by_cases hlt : i < n
        · have hm : i < xs.length := by have := HN.out; omega
          have hk : i < ys.length := by have := HN'.out; omega
          obtain ⟨b1, off, hA, hbl, e0⟩ := RowOf.at_ (HS.out.next hb) hm
          obtain ⟨b2, off2, hA2, hbl2, e2⟩ := RowOf.at_ (HS'.out.next hb) hk
          subst hA hA2
          have HNX := Lib.hid (zip_take hm hk HT.out)
          have HNO := Lib.hid (fun h => zip_no (p := sameI) hm hk h)
          have hox := HOK.out _ (List.getElem_mem hm)
          have hoy := HOK'.out _ (List.getElem_mem hk)
          obtain ⟨x, hx⟩ : ∃ x, xs[i] = x := ⟨_, rfl⟩
          obtain ⟨y, hy⟩ : ∃ y, ys[i] = y := ⟨_, rfl⟩
          rw [hx] at e0 HNX HNO hox
          rw [hy] at e2 HNX HNO hoy
          obtain ⟨g0, g1, g2, g3, g4, A5, z5, g5, hi5⟩ := e0
          obtain ⟨k0, k1, k2, k3, k4, A6, z6, k5, hi6⟩ := e2
          have HC := Lib.hid (fun (U : World) (hu : Below wr.heap.size wr U) => refSameInst_any x.o x.a x.b x.k y.o y.a y.b y.k x.s y.s x.l y.l A5 A6 _ z5 _ z6 U hox hoy (hi5.next hu) (hi6.next hu))
          rw [show sameI ⟨x.o, x.a, x.b, x.k, x.s, x.l⟩ ⟨y.o, y.a, y.b, y.k, y.s, y.l⟩ = sameI x y from rfl] at HC
          obtain ⟨x0, hx0⟩ : ∃ z, x.o = z := ⟨_, rfl⟩
          obtain ⟨x1, hx1⟩ : ∃ z, x.a = z := ⟨_, rfl⟩
          obtain ⟨x2, hx2⟩ : ∃ z, x.b = z := ⟨_, rfl⟩
          obtain ⟨x3, hx3⟩ : ∃ z, x.k = z := ⟨_, rfl⟩
          obtain ⟨x4, hx4⟩ : ∃ z, x.s = z := ⟨_, rfl⟩
          obtain ⟨x5, hx5⟩ : ∃ z, x.l.length = z := ⟨_, rfl⟩
          obtain ⟨y0, hy0⟩ : ∃ z, y.o = z := ⟨_, rfl⟩
          obtain ⟨y1, hy1⟩ : ∃ z, y.a = z := ⟨_, rfl⟩
          obtain ⟨y2, hy2⟩ : ∃ z, y.b = z := ⟨_, rfl⟩
          obtain ⟨y3, hy3⟩ : ∃ z, y.k = z := ⟨_, rfl⟩
          obtain ⟨y4, hy4⟩ : ∃ z, y.s = z := ⟨_, rfl⟩
          obtain ⟨y5, hy5⟩ : ∃ z, y.l.length = z := ⟨_, rfl⟩
          rw [hx0, hx1, hx2, hx3, hx4, hx5, hy0, hy1, hy2, hy3, hy4, hy5] at HC
          rw [hx0] at g0
          rw [hy0] at k0
          rw [hx1] at g1
          rw [hy1] at k1
          rw [hx2] at g2
          rw [hy2] at k2
          rw [hx3] at g3
          rw [hy3] at k3
          rw [hx4] at g4
          rw [hy4] at k4
          rw [hx5] at g5
          rw [hy5] at k5
          clear hi5 hi6 hx0 hx1 hx2 hx3 hx4 hx5 hy0 hy1 hy2 hy3 hy4 hy5
          obtain ⟨X, hX⟩ : ∃ X, sameI x y = X := ⟨_, rfl⟩
          rw [hX] at HC HNX HNO
          have HV0 := Lib.hid (show X = false → V = false from fun h => by rw [HE.out, HNO.out h]; rfl)
          have hk0 : (0 : Int) ≤ (i : Int) := Int.natCast_nonneg _
          have hk1 : (i : Int) < (n : Int) := by omega
          have HLT := Lib.hid hlt
          have HW := Lib.hid (fun (U : World) (hU : Below wr.heap.size wr U) => (show U.cell? ⟨w.heap.size, 1, none⟩ = some (.slice (some ⟨b1, off, none⟩) n s) ∧ U.cell? ⟨w.heap.size + 1, 1, none⟩ = some (.slice (some ⟨b2, off2, none⟩) n s') ∧ U.cell? ⟨b1, off + i * 6, none⟩ = some (.int .i64 x0) ∧ U.cell? ⟨b1, off + i * 6 + 1, none⟩ = some (.int .i64 x1) ∧ U.cell? ⟨b1, off + i * 6 + 2, none⟩ = some (.int .i64 x2) ∧ U.cell? ⟨b1, off + i * 6 + 3, none⟩ = some (.int .u64 x3) ∧ U.cell? ⟨b1, off + i * 6 + 4, none⟩ = some (.string x4) ∧ U.cell? ⟨b1, off + i * 6 + 5, none⟩ = some (.slice A5 x5 z5) ∧ U.cell? ⟨b2, off2 + i * 6, none⟩ = some (.int .i64 y0) ∧ U.cell? ⟨b2, off2 + i * 6 + 1, none⟩ = some (.int .i64 y1) ∧ U.cell? ⟨b2, off2 + i * 6 + 2, none⟩ = some (.int .i64 y2) ∧ U.cell? ⟨b2, off2 + i * 6 + 3, none⟩ = some (.int .u64 y3) ∧ U.cell? ⟨b2, off2 + i * 6 + 4, none⟩ = some (.string y4) ∧ U.cell? ⟨b2, off2 + i * 6 + 5, none⟩ = some (.slice A6 y5 z6) ∧ Below wr.heap.size wr U from by
            have hxu := (hU.block _ (Array.getElem?_eq_some_iff.1 HXX.out).1).trans HXX.out
            have hyu := (hU.block _ (Array.getElem?_eq_some_iff.1 HYY.out).1).trans HYY.out
            exact ⟨Lib.cell_of_heap hxu 1, Lib.cell_of_heap hyu 1, (cellNext hbl hU _).trans g0, (cellNext hbl hU _).trans g1, (cellNext hbl hU _).trans g2, (cellNext hbl hU _).trans g3, (cellNext hbl hU _).trans g4, (cellNext hbl hU _).trans g5, (cellNext hbl2 hU _).trans k0, (cellNext hbl2 hU _).trans k1, (cellNext hbl2 hU _).trans k2, (cellNext hbl2 hU _).trans k3, (cellNext hbl2 hU _).trans k4, (cellNext hbl2 hU _).trans k5, hU⟩))
          clear hx hy hm hk hlt hX hox hoy HNO hb hbl hbl2 g0 g1 g2 g3 g4 g5 k0 k1 k2 k3 k4 k5
          go_upto_region 7 with fail
          clear c1 d1
          go_cut [7] from 86 to 97 (fun v7 wx => v7 = .bool X ∧ Below wr.heap.size wr wx)
          case first =>
            have hd := HW.out _ (Below.refl _ wr).drew
            refine wp_region_held_drew (S := (fun U => U.cell? ⟨w.heap.size, 1, none⟩ = some (.slice (some ⟨b1, off, none⟩) n s) ∧ U.cell? ⟨w.heap.size + 1, 1, none⟩ = some (.slice (some ⟨b2, off2, none⟩) n s') ∧ U.cell? ⟨b1, off + i * 6, none⟩ = some (.int .i64 x0) ∧ U.cell? ⟨b1, off + i * 6 + 1, none⟩ = some (.int .i64 x1) ∧ U.cell? ⟨b1, off + i * 6 + 2, none⟩ = some (.int .i64 x2) ∧ U.cell? ⟨b1, off + i * 6 + 3, none⟩ = some (.int .u64 x3) ∧ U.cell? ⟨b1, off + i * 6 + 4, none⟩ = some (.string x4) ∧ U.cell? ⟨b1, off + i * 6 + 5, none⟩ = some (.slice A5 x5 z5) ∧ U.cell? ⟨b2, off2 + i * 6, none⟩ = some (.int .i64 y0) ∧ U.cell? ⟨b2, off2 + i * 6 + 1, none⟩ = some (.int .i64 y1) ∧ U.cell? ⟨b2, off2 + i * 6 + 2, none⟩ = some (.int .i64 y2) ∧ U.cell? ⟨b2, off2 + i * 6 + 3, none⟩ = some (.int .u64 y3) ∧ U.cell? ⟨b2, off2 + i * 6 + 4, none⟩ = some (.string y4) ∧ U.cell? ⟨b2, off2 + i * 6 + 5, none⟩ = some (.slice A6 y5 z6) ∧ Below wr.heap.size wr U)) (by kernel_rfl) hd (fun hHeld => ?_)
            refine wpAnyH_take (i := 0) (v := ?_) rfl (by kernel_rfl) (by kernel_rfl) (by kernel_rfl) (fun _ _ _ h => h) (Or.inl ⟨by rfl, ?_⟩) hHeld ?_
            rotate_left
            · intro W' hSw; (try dsimp only at hSw); go_simp; try (with_reducible rfl)
            (try simp only [Act.put, List.getElem_toArray, List.getElem_cons_zero, List.setIfInBounds_toArray, List.set_cons_zero, List.set_cons_succ])
            refine wpAnyH_take (i := 1) (v := ?_) rfl (by kernel_rfl) (by kernel_rfl) (by kernel_rfl) (fun _ _ _ h => h) (Or.inl ⟨by rfl, ?_⟩) hHeld ?_
            rotate_left
            · intro W' hSw; (try dsimp only at hSw); go_simp; try (with_reducible rfl)
            (try simp only [Act.put, List.getElem_toArray, List.getElem_cons_zero, List.getElem_cons_succ, List.setIfInBounds_toArray, List.set_cons_zero, List.set_cons_succ])
            refine wpAnyH_take (i := 2) (v := ?_) rfl (by kernel_rfl) (by kernel_rfl) (by kernel_rfl) (fun _ _ _ h => h) (Or.inl ⟨by rfl, ?_⟩) hHeld ?_
            rotate_left
            · intro W' hSw; (try dsimp only at hSw); go_simp; try (with_reducible rfl)
            (try simp only [Act.put, List.getElem_toArray, List.getElem_cons_zero, List.getElem_cons_succ, List.setIfInBounds_toArray, List.set_cons_zero, List.set_cons_succ])
            refine wpAnyH_take (i := 3) (v := ?_) rfl (by kernel_rfl) (by kernel_rfl) (by kernel_rfl) (fun _ _ _ h => h) (Or.inl ⟨by rfl, ?_⟩) hHeld ?_
            rotate_left
            · intro W' hSw; (try dsimp only at hSw); go_simp; try (with_reducible rfl)
            (try simp only [Act.put, List.getElem_toArray, List.getElem_cons_zero, List.getElem_cons_succ, List.setIfInBounds_toArray, List.set_cons_zero, List.set_cons_succ])
            refine wpAnyH_take (i := 4) (v := ?_) rfl (by kernel_rfl) (by kernel_rfl) (by kernel_rfl) (fun _ _ _ h => h) (Or.inl ⟨by rfl, ?_⟩) hHeld ?_
            rotate_left
            · intro W' hSw; (try dsimp only at hSw); go_simp; try (with_reducible rfl)
            (try simp only [Act.put, List.getElem_toArray, List.getElem_cons_zero, List.getElem_cons_succ, List.setIfInBounds_toArray, List.set_cons_zero, List.set_cons_succ])
            refine wpAnyH_take (i := 5) (v := ?_) rfl (by kernel_rfl) (by kernel_rfl) (by kernel_rfl) (fun _ _ _ h => h) (Or.inl ⟨by rfl, ?_⟩) hHeld ?_
            rotate_left
            · intro W' hSw; (try dsimp only at hSw); go_simp; try (with_reducible rfl)
            (try simp only [Act.put, List.getElem_toArray, List.getElem_cons_zero, List.getElem_cons_succ, List.setIfInBounds_toArray, List.set_cons_zero, List.set_cons_succ])
            refine wpAnyH_take (i := 6) (v := ?_) rfl (by kernel_rfl) (by kernel_rfl) (by kernel_rfl) (fun _ _ _ h => h) (Or.inl ⟨by rfl, ?_⟩) hHeld ?_
            rotate_left
            · intro W' hSw; (try dsimp only at hSw); go_simp; try (with_reducible rfl)
            (try simp only [Act.put, List.getElem_toArray, List.getElem_cons_zero, List.getElem_cons_succ, List.setIfInBounds_toArray, List.set_cons_zero, List.set_cons_succ])
            refine wpAnyH_take (i := 7) (v := ?_) rfl (by kernel_rfl) (by kernel_rfl) (by kernel_rfl) (fun _ _ _ h => h) (Or.inl ⟨by rfl, ?_⟩) hHeld ?_
            rotate_left
            · intro W' hSw; (try dsimp only at hSw); go_simp; try (with_reducible rfl)
            (try simp only [Act.put, List.getElem_toArray, List.getElem_cons_zero, List.getElem_cons_succ, List.setIfInBounds_toArray, List.set_cons_zero, List.set_cons_succ])
            refine wpAnyH_take (i := 8) (v := ?_) rfl (by kernel_rfl) (by kernel_rfl) (by kernel_rfl) (fun _ _ _ h => h) (Or.inl ⟨by rfl, ?_⟩) hHeld ?_
            rotate_left
            · intro W' hSw; (try dsimp only at hSw); go_simp; try (with_reducible rfl)
            (try simp only [Act.put, List.getElem_toArray, List.getElem_cons_zero, List.getElem_cons_succ, List.setIfInBounds_toArray, List.set_cons_zero, List.set_cons_succ])
            refine wpAnyH_take (i := 9) (v := ?_) rfl (by kernel_rfl) (by kernel_rfl) (by kernel_rfl) (fun _ _ _ h => h) (Or.inl ⟨by rfl, ?_⟩) hHeld ?_
            rotate_left
            · intro W' hSw; (try dsimp only at hSw); go_simp; try (with_reducible rfl)
            (try simp only [Act.put, List.getElem_toArray, List.getElem_cons_zero, List.getElem_cons_succ, List.setIfInBounds_toArray, List.set_cons_zero, List.set_cons_succ])
            refine wpAnyH_ready (rs := [10]) (by kernel_rfl) (by simp) ?_
            refine AllReadyH.cons rfl (fun K hK => ?_) AllReadyH.nil
            go_simp
            refine Calls.mono (HC.out _ hHeld.2.2.2.2.2.2.2.2.2.2.2.2.2.2) ?_
            rintro r u1 ⟨rfl, hb2'⟩
            refine hK.out _ _ (HW.out _ (bthen hHeld.2.2.2.2.2.2.2.2.2.2.2.2.2.2 hb2')) (fun hHeld2 => ?_)
            clear hK
            (try simp only [Act.put, List.getElem_toArray, List.getElem_cons_zero, List.getElem_cons_succ, List.setIfInBounds_toArray, List.set_cons_zero, List.set_cons_succ])
            refine wpAnyH_take (i := 11) (v := ?_) rfl (by kernel_rfl) (by kernel_rfl) (by kernel_rfl) (fun _ _ _ h => h) (Or.inl ⟨by rfl, ?_⟩) hHeld2 ?_
            rotate_left
            · intro W' hSw; (try dsimp only at hSw); go_simp; try (with_reducible rfl)
            (try simp only [Act.put, List.getElem_toArray, List.getElem_cons_zero, List.getElem_cons_succ, List.setIfInBounds_toArray, List.set_cons_zero, List.set_cons_succ])
            refine wpAnyH_done (by kernel_rfl) ?_ _
            go_wp2_with fail
            go_meet
            exact ⟨rfl, hHeld2.2.2.2.2.2.2.2.2.2.2.2.2.2.2⟩
          case rest =>
            obtain ⟨rfl, hb3⟩ := hcut
            have HX3 := Lib.hid ((hb3.block _ (Array.getElem?_eq_some_iff.1 HXX.out).1).trans HXX.out)
            have HY3 := Lib.hid ((hb3.block _ (Array.getElem?_eq_some_iff.1 HYY.out).1).trans HYY.out)
            have HB3 := Lib.hid (bthen HBB.out hb3)
            clear hb3
            cases X with
            | false =>
              have HV := Lib.hid (HV0.out rfl)
              go_wp2_with fail
              go_ret
              exact ⟨by rw [HV.out]; rfl, HB3.out⟩
            | true =>
              go_wp2_with fail
              go_roundw
              case rel => exact ⟨i + 1, HLT.out, by go_num, HNX.out, HX3.out, HY3.out, HB3.out⟩
              case measure => have := HLT.out; simp [intOf]; omega
        · have hd : decide ((i : Int) < (n : Int)) = false := by simp; omega
          have HL := Lib.hid (show listB sameI xs ys = true by
            have h := HT.out
            exact zip_all (n := n) (by have := HN.out; omega) (by have := HN'.out; omega) (by rwa [show i = n by omega] at h))
          have HV := Lib.hid (show V = true by rw [HE.out, HL.out]; rfl)
          go_wp2_with fail
          go_ret
          exact ⟨by rw [HV.out]; rfl, HBB.out⟩
set_option maxRecDepth 100000 in
set_option maxHeartbeats 8000000 in
theorem refSameFunc_any (s s' : ByteArray) (b p b' p' : Int) (xs ys : List Bk) (A A' : Option Addr) (n c n' c' : Nat) (w : World) (hr : xs.length = n) (hr' : ys.length = n') (hr9 : n ≤ 9223372036854775807) (_hr9' : n' ≤ 9223372036854775807) (hoi : ∀ x ∈ xs, BkOk x) (hoi' : ∀ x ∈ ys, BkOk x) (hI : Blocks w (.slice A n c) xs) (hI' : Blocks w (.slice A' n' c') ys) :
    Calls Try.prog 21 #[.agg #[.string s, .int .i64 b, .int .i64 p, .slice A n c], .agg #[.string s', .int .i64 b', .int .i64 p', .slice A' n' c']] w fun E w' => E = .returned (.bool (sameF ⟨s, b, p, xs⟩ ⟨s', b', p', ys⟩)) ∧ Below w.heap.size w w' := by
  have HN := Lib.hid (show xs.length ≤ n ∧ n ≤ xs.length by omega)
  have HN' := Lib.hid (show ys.length ≤ n' ∧ n' ≤ ys.length by omega)
  have HS := Lib.hid hI
  have HS' := Lib.hid hI'
  have HOK := Lib.hid hoi
  have HOK' := Lib.hid hoi'
  have n1 : (n : Int) ≤ 9223372036854775807 := by omega
  clear hI hI' hr hr' hr9 hoi hoi'
  obtain ⟨V, hV⟩ : ∃ V, sameF ⟨s, b, p, xs⟩ ⟨s', b', p', ys⟩ = V := ⟨_, rfl⟩
  have HE := Lib.hid (show V = ((s == s') && (b == b') && (p == p') && listB sameB xs ys) from hV.symm)
  rw [hV]
  clear hV
  go_enter Try.func21, Try.ntmps21
  go_upto_region 1 with fail
  have HX := Lib.hid (show ((w.alloc (.cells #[.string s, .int .i64 b, .int .i64 p, .slice A n c] 60)).alloc (.cells #[.string s', .int .i64 b', .int .i64 p', .slice A' n' c'] 60)).heap[w.heap.size]? = some (.cells #[.string s, .int .i64 b, .int .i64 p, .slice A n c] 60 (0, 0)) from ((balloc (Below.refl _ _) (.cells #[.string s', .int .i64 b', .int .i64 p', .slice A' n' c'] 60)).block w.heap.size (Array.getElem?_eq_some_iff.1 (heap_alloc_new w (.cells #[.string s, .int .i64 b, .int .i64 p, .slice A n c] 60))).1).trans (heap_alloc_new w (.cells #[.string s, .int .i64 b, .int .i64 p, .slice A n c] 60)))
  have HY := Lib.hid (show ((w.alloc (.cells #[.string s, .int .i64 b, .int .i64 p, .slice A n c] 60)).alloc (.cells #[.string s', .int .i64 b', .int .i64 p', .slice A' n' c'] 60)).heap[w.heap.size + 1]? = some (.cells #[.string s', .int .i64 b', .int .i64 p', .slice A' n' c'] 60 (0, 0)) from by
    have e := heap_alloc_new (w.alloc (.cells #[.string s, .int .i64 b, .int .i64 p, .slice A n c] 60)) (.cells #[.string s', .int .i64 b', .int .i64 p', .slice A' n' c'] 60)
    rwa [World.size_alloc] at e)
  have HB := Lib.hid (boxes2 w #[.string s, .int .i64 b, .int .i64 p, .slice A n c] #[.string s', .int .i64 b', .int .i64 p', .slice A' n' c'] 60)
  generalize (w.alloc (.cells #[.string s, .int .i64 b, .int .i64 p, .slice A n c] 60)).alloc (.cells #[.string s', .int .i64 b', .int .i64 p', .slice A' n' c'] 60) = W0 at *
  have c0 := Lib.cell_of_heap HX.out 0
  have c1 := Lib.cell_of_heap HX.out 1
  have c2 := Lib.cell_of_heap HX.out 2
  have c3 := Lib.cell_of_heap HX.out 3
  simp only [List.getElem?_toArray, List.getElem?_cons_zero, List.getElem?_cons_succ] at c0 c1 c2 c3
  have d0 := Lib.cell_of_heap HY.out 0
  have d1 := Lib.cell_of_heap HY.out 1
  have d2 := Lib.cell_of_heap HY.out 2
  have d3 := Lib.cell_of_heap HY.out 3
  simp only [List.getElem?_toArray, List.getElem?_cons_zero, List.getElem?_cons_succ] at d0 d1 d2 d3
  by_cases h0 : s = s'
  case neg =>
    have n0 : (s == s') = false := by cases h : s == s' with | false => rfl | true => exact absurd ((jba_beq _ _).1 h) h0
    have m0 : (s.toList == s'.toList) = false := by rw [← beq_toListBytes]; exact n0
    have HV := Lib.hid (show V = false by rw [HE.out, n0]; simp)
    go_wp2_with fail
    go_ret
    exact ⟨by rw [HV.out]; rfl, HB.out⟩
  subst h0
  rw [jba_refl] at HE
  by_cases h1 : b = b'
  case neg =>
    have n1 : (b == b') = false := by simpa using h1
    have HV := Lib.hid (show V = false by rw [HE.out, n1]; simp)
    go_wp2_with fail
    go_ret
    exact ⟨by rw [HV.out]; rfl, HB.out⟩
  subst h1
  rw [show (b == b) = true by simp] at HE
  by_cases h2 : p = p'
  case neg =>
    have n2 : (p == p') = false := by simpa using h2
    have HV := Lib.hid (show V = false by rw [HE.out, n2]; simp)
    go_wp2_with fail
    go_ret
    exact ⟨by rw [HV.out]; rfl, HB.out⟩
  subst h2
  rw [show (p == p) = true by simp] at HE
  by_cases hl : n = n'
  case neg =>
    have nl : ((n : Int) == (n' : Int)) = false := by simp; omega
    have HV := Lib.hid (show V = false by rw [HE.out, listB_len (by have := HN.out; have := HN'.out; omega)]; simp)
    go_wp2_with fail
    go_ret
    exact ⟨by rw [HV.out]; rfl, HB.out⟩
  subst hl
  go_wp2_with fail
  clear c0 c1 c2 c3 d0 d1 d2 d3
  go_loopw [5] (fun iv wr => ∃ i : Nat, i ≤ n ∧ iv = .int .i64 i ∧ ((xs.take i).zip (ys.take i)).all (fun x => sameB x.1 x.2) = true ∧ wr.heap[w.heap.size]? = some (.cells #[.string s, .int .i64 b, .int .i64 p, .slice A n c] 60 (0, 0)) ∧ wr.heap[w.heap.size + 1]? = some (.cells #[.string s, .int .i64 b, .int .i64 p, .slice A' n c'] 60 (0, 0)) ∧ Below w.heap.size w wr) (fun iv _ => n - (intOf iv).toNat)
  case atStart => exact ⟨0, Nat.zero_le _, rfl, by simp, HX.out, HY.out, HB.out⟩
  case round =>
    obtain ⟨i, hi, rfl, hs, hxx, hyy, hb⟩ := hrel
    have HT := Lib.hid hs
    have HXX := Lib.hid hxx
    have HYY := Lib.hid hyy
    have HBB := Lib.hid hb
    have c3 := Lib.cell_of_heap hxx 3
    simp only [List.getElem?_toArray, List.getElem?_cons_zero, List.getElem?_cons_succ] at c3
    have d3 := Lib.cell_of_heap hyy 3
    simp only [List.getElem?_toArray, List.getElem?_cons_zero, List.getElem?_cons_succ] at d3
    clear hs hxx hyy
    by_cases hlt : i < n
    · have hm : i < xs.length := by have := HN.out; omega
      have hk : i < ys.length := by have := HN'.out; omega
      obtain ⟨b1, off, hA, hbl, e0⟩ := RowOf.at_ (HS.out.next hb) hm
      obtain ⟨b2, off2, hA2, hbl2, e2⟩ := RowOf.at_ (HS'.out.next hb) hk
      subst hA hA2
      have HNX := Lib.hid (zip_take hm hk HT.out)
      have HNO := Lib.hid (fun h => zip_no (p := sameB) hm hk h)
      have hox := HOK.out _ (List.getElem_mem hm)
      have hoy := HOK'.out _ (List.getElem_mem hk)
      obtain ⟨x, hx⟩ : ∃ x, xs[i] = x := ⟨_, rfl⟩
      obtain ⟨y, hy⟩ : ∃ y, ys[i] = y := ⟨_, rfl⟩
      rw [hx] at e0 HNX HNO hox
      rw [hy] at e2 HNX HNO hoy
      obtain ⟨g0, ⟨A1, z1, g1, hi1⟩, g2, g3, g4, ⟨A5, z5, g5, hi5⟩, g6, A7, z7, g7, hi7⟩ := e0
      obtain ⟨k0, ⟨B1, v1, k1, hj1⟩, k2, k3, k4, ⟨B5, v5, k5, hj5⟩, k6, B7, v7, k7, hj7⟩ := e2
      have HC := Lib.hid (fun (U : World) (hu : Below wr.heap.size wr U) => refSameBlock_any x.p x.e.k x.e.a x.e.t x.e.e y.p y.e.k y.e.a y.e.t y.e.e x.i y.i x.e.l x.e.m y.e.l y.e.m A5 A7 A1 B5 B7 B1 _ z5 _ z7 _ z1 _ v5 _ v7 _ v1 U rfl rfl hox.1 hoy.1 (fun i hi => (hox.2.2.2 i hi).2) (fun i hi => (hoy.2.2.2 i hi).2) hox.2.1 hox.2.2.1 hoy.2.1 hoy.2.2.1 (hi1.next hu) (hj1.next hu) (hi5.next hu) (hj5.next hu) (hi7.next hu) (hj7.next hu))
      rw [show sameB ⟨x.p, x.i, ⟨x.e.k, x.e.a, x.e.t, x.e.l, x.e.e, x.e.m⟩⟩ ⟨y.p, y.i, ⟨y.e.k, y.e.a, y.e.t, y.e.l, y.e.e, y.e.m⟩⟩ = sameB x y from rfl] at HC
      obtain ⟨x0, hx0⟩ : ∃ z, x.p = z := ⟨_, rfl⟩
      obtain ⟨x1, hx1⟩ : ∃ z, x.i.length = z := ⟨_, rfl⟩
      obtain ⟨x2, hx2⟩ : ∃ z, x.e.k = z := ⟨_, rfl⟩
      obtain ⟨x3, hx3⟩ : ∃ z, x.e.a = z := ⟨_, rfl⟩
      obtain ⟨x4, hx4⟩ : ∃ z, x.e.t = z := ⟨_, rfl⟩
      obtain ⟨x5, hx5⟩ : ∃ z, x.e.l.length = z := ⟨_, rfl⟩
      obtain ⟨x6, hx6⟩ : ∃ z, x.e.e = z := ⟨_, rfl⟩
      obtain ⟨x7, hx7⟩ : ∃ z, x.e.m.length = z := ⟨_, rfl⟩
      obtain ⟨y0, hy0⟩ : ∃ z, y.p = z := ⟨_, rfl⟩
      obtain ⟨y1, hy1⟩ : ∃ z, y.i.length = z := ⟨_, rfl⟩
      obtain ⟨y2, hy2⟩ : ∃ z, y.e.k = z := ⟨_, rfl⟩
      obtain ⟨y3, hy3⟩ : ∃ z, y.e.a = z := ⟨_, rfl⟩
      obtain ⟨y4, hy4⟩ : ∃ z, y.e.t = z := ⟨_, rfl⟩
      obtain ⟨y5, hy5⟩ : ∃ z, y.e.l.length = z := ⟨_, rfl⟩
      obtain ⟨y6, hy6⟩ : ∃ z, y.e.e = z := ⟨_, rfl⟩
      obtain ⟨y7, hy7⟩ : ∃ z, y.e.m.length = z := ⟨_, rfl⟩
      rw [hx0, hx1, hx2, hx3, hx4, hx5, hx6, hx7, hy0, hy1, hy2, hy3, hy4, hy5, hy6, hy7] at HC
      rw [hx0] at g0
      rw [hy0] at k0
      rw [hx1] at g1
      rw [hy1] at k1
      rw [hx2] at g2
      rw [hy2] at k2
      rw [hx3] at g3
      rw [hy3] at k3
      rw [hx4] at g4
      rw [hy4] at k4
      rw [hx5] at g5
      rw [hy5] at k5
      rw [hx6] at g6
      rw [hy6] at k6
      rw [hx7] at g7
      rw [hy7] at k7
      clear hi1 hi5 hi7 hj1 hj5 hj7 hx0 hx1 hx2 hx3 hx4 hx5 hx6 hx7 hy0 hy1 hy2 hy3 hy4 hy5 hy6 hy7
      obtain ⟨X, hX⟩ : ∃ X, sameB x y = X := ⟨_, rfl⟩
      rw [hX] at HC HNX HNO
      have HV0 := Lib.hid (show X = false → V = false from fun h => by rw [HE.out, HNO.out h]; rfl)
      have hk0 : (0 : Int) ≤ (i : Int) := Int.natCast_nonneg _
      have hk1 : (i : Int) < (n : Int) := by omega
      have HLT := Lib.hid hlt
      have HW := Lib.hid (fun (U : World) (hU : Below wr.heap.size wr U) => (show U.cell? ⟨w.heap.size, 3, none⟩ = some (.slice (some ⟨b1, off, none⟩) n c) ∧ U.cell? ⟨w.heap.size + 1, 3, none⟩ = some (.slice (some ⟨b2, off2, none⟩) n c') ∧ U.cell? ⟨b1, off + i * 8, none⟩ = some (.int .i64 x0) ∧ U.cell? ⟨b1, off + i * 8 + 1, none⟩ = some (.slice A1 x1 z1) ∧ U.cell? ⟨b1, off + i * 8 + 2, none⟩ = some (.int .i64 x2) ∧ U.cell? ⟨b1, off + i * 8 + 3, none⟩ = some (.int .i64 x3) ∧ U.cell? ⟨b1, off + i * 8 + 4, none⟩ = some (.int .i64 x4) ∧ U.cell? ⟨b1, off + i * 8 + 5, none⟩ = some (.slice A5 x5 z5) ∧ U.cell? ⟨b1, off + i * 8 + 6, none⟩ = some (.int .i64 x6) ∧ U.cell? ⟨b1, off + i * 8 + 7, none⟩ = some (.slice A7 x7 z7) ∧ U.cell? ⟨b2, off2 + i * 8, none⟩ = some (.int .i64 y0) ∧ U.cell? ⟨b2, off2 + i * 8 + 1, none⟩ = some (.slice B1 y1 v1) ∧ U.cell? ⟨b2, off2 + i * 8 + 2, none⟩ = some (.int .i64 y2) ∧ U.cell? ⟨b2, off2 + i * 8 + 3, none⟩ = some (.int .i64 y3) ∧ U.cell? ⟨b2, off2 + i * 8 + 4, none⟩ = some (.int .i64 y4) ∧ U.cell? ⟨b2, off2 + i * 8 + 5, none⟩ = some (.slice B5 y5 v5) ∧ U.cell? ⟨b2, off2 + i * 8 + 6, none⟩ = some (.int .i64 y6) ∧ U.cell? ⟨b2, off2 + i * 8 + 7, none⟩ = some (.slice B7 y7 v7) ∧ Below wr.heap.size wr U from by
        have hxu := (hU.block _ (Array.getElem?_eq_some_iff.1 HXX.out).1).trans HXX.out
        have hyu := (hU.block _ (Array.getElem?_eq_some_iff.1 HYY.out).1).trans HYY.out
        exact ⟨Lib.cell_of_heap hxu 3, Lib.cell_of_heap hyu 3, (cellNext hbl hU _).trans g0, (cellNext hbl hU _).trans g1, (cellNext hbl hU _).trans g2, (cellNext hbl hU _).trans g3, (cellNext hbl hU _).trans g4, (cellNext hbl hU _).trans g5, (cellNext hbl hU _).trans g6, (cellNext hbl hU _).trans g7, (cellNext hbl2 hU _).trans k0, (cellNext hbl2 hU _).trans k1, (cellNext hbl2 hU _).trans k2, (cellNext hbl2 hU _).trans k3, (cellNext hbl2 hU _).trans k4, (cellNext hbl2 hU _).trans k5, (cellNext hbl2 hU _).trans k6, (cellNext hbl2 hU _).trans k7, hU⟩))
      clear hx hy hm hk hlt hX hox hoy HNO hb hbl hbl2 g0 k0 g1 k1 g2 k2 g3 k3 g4 k4 g5 k5 g6 k6 g7 k7
      go_upto_region 6 with fail
      clear c3 d3
      go_cut [6] from 42 to 53 (fun v7 wx => v7 = .bool X ∧ Below wr.heap.size wr wx)
      case first =>
        have hd := HW.out _ (Below.refl _ wr).drew
        refine wp_region_held_drew (S := (fun U => U.cell? ⟨w.heap.size, 3, none⟩ = some (.slice (some ⟨b1, off, none⟩) n c) ∧ U.cell? ⟨w.heap.size + 1, 3, none⟩ = some (.slice (some ⟨b2, off2, none⟩) n c') ∧ U.cell? ⟨b1, off + i * 8, none⟩ = some (.int .i64 x0) ∧ U.cell? ⟨b1, off + i * 8 + 1, none⟩ = some (.slice A1 x1 z1) ∧ U.cell? ⟨b1, off + i * 8 + 2, none⟩ = some (.int .i64 x2) ∧ U.cell? ⟨b1, off + i * 8 + 3, none⟩ = some (.int .i64 x3) ∧ U.cell? ⟨b1, off + i * 8 + 4, none⟩ = some (.int .i64 x4) ∧ U.cell? ⟨b1, off + i * 8 + 5, none⟩ = some (.slice A5 x5 z5) ∧ U.cell? ⟨b1, off + i * 8 + 6, none⟩ = some (.int .i64 x6) ∧ U.cell? ⟨b1, off + i * 8 + 7, none⟩ = some (.slice A7 x7 z7) ∧ U.cell? ⟨b2, off2 + i * 8, none⟩ = some (.int .i64 y0) ∧ U.cell? ⟨b2, off2 + i * 8 + 1, none⟩ = some (.slice B1 y1 v1) ∧ U.cell? ⟨b2, off2 + i * 8 + 2, none⟩ = some (.int .i64 y2) ∧ U.cell? ⟨b2, off2 + i * 8 + 3, none⟩ = some (.int .i64 y3) ∧ U.cell? ⟨b2, off2 + i * 8 + 4, none⟩ = some (.int .i64 y4) ∧ U.cell? ⟨b2, off2 + i * 8 + 5, none⟩ = some (.slice B5 y5 v5) ∧ U.cell? ⟨b2, off2 + i * 8 + 6, none⟩ = some (.int .i64 y6) ∧ U.cell? ⟨b2, off2 + i * 8 + 7, none⟩ = some (.slice B7 y7 v7) ∧ Below wr.heap.size wr U)) (by kernel_rfl) hd (fun hHeld => ?_)
        refine wpAnyH_take (i := 0) (v := ?_) rfl (by kernel_rfl) (by kernel_rfl) (by kernel_rfl) (fun _ _ _ h => h) (Or.inl ⟨by rfl, ?_⟩) hHeld ?_
        rotate_left
        · intro W' hSw; (try dsimp only at hSw); go_simp; try (with_reducible rfl)
        (try simp only [Act.put, List.getElem_toArray, List.getElem_cons_zero, List.setIfInBounds_toArray, List.set_cons_zero, List.set_cons_succ])
        refine wpAnyH_take (i := 1) (v := ?_) rfl (by kernel_rfl) (by kernel_rfl) (by kernel_rfl) (fun _ _ _ h => h) (Or.inl ⟨by rfl, ?_⟩) hHeld ?_
        rotate_left
        · intro W' hSw; (try dsimp only at hSw); go_simp; try (with_reducible rfl)
        (try simp only [Act.put, List.getElem_toArray, List.getElem_cons_zero, List.getElem_cons_succ, List.setIfInBounds_toArray, List.set_cons_zero, List.set_cons_succ])
        refine wpAnyH_take (i := 2) (v := ?_) rfl (by kernel_rfl) (by kernel_rfl) (by kernel_rfl) (fun _ _ _ h => h) (Or.inl ⟨by rfl, ?_⟩) hHeld ?_
        rotate_left
        · intro W' hSw; (try dsimp only at hSw); go_simp; try (with_reducible rfl)
        (try simp only [Act.put, List.getElem_toArray, List.getElem_cons_zero, List.getElem_cons_succ, List.setIfInBounds_toArray, List.set_cons_zero, List.set_cons_succ])
        refine wpAnyH_take (i := 3) (v := ?_) rfl (by kernel_rfl) (by kernel_rfl) (by kernel_rfl) (fun _ _ _ h => h) (Or.inl ⟨by rfl, ?_⟩) hHeld ?_
        rotate_left
        · intro W' hSw; (try dsimp only at hSw); go_simp; try (with_reducible rfl)
        (try simp only [Act.put, List.getElem_toArray, List.getElem_cons_zero, List.getElem_cons_succ, List.setIfInBounds_toArray, List.set_cons_zero, List.set_cons_succ])
        refine wpAnyH_take (i := 4) (v := ?_) rfl (by kernel_rfl) (by kernel_rfl) (by kernel_rfl) (fun _ _ _ h => h) (Or.inl ⟨by rfl, ?_⟩) hHeld ?_
        rotate_left
        · intro W' hSw; (try dsimp only at hSw); go_simp; try (with_reducible rfl)
        (try simp only [Act.put, List.getElem_toArray, List.getElem_cons_zero, List.getElem_cons_succ, List.setIfInBounds_toArray, List.set_cons_zero, List.set_cons_succ])
        refine wpAnyH_take (i := 5) (v := ?_) rfl (by kernel_rfl) (by kernel_rfl) (by kernel_rfl) (fun _ _ _ h => h) (Or.inl ⟨by rfl, ?_⟩) hHeld ?_
        rotate_left
        · intro W' hSw; (try dsimp only at hSw); go_simp; try (with_reducible rfl)
        (try simp only [Act.put, List.getElem_toArray, List.getElem_cons_zero, List.getElem_cons_succ, List.setIfInBounds_toArray, List.set_cons_zero, List.set_cons_succ])
        refine wpAnyH_take (i := 6) (v := ?_) rfl (by kernel_rfl) (by kernel_rfl) (by kernel_rfl) (fun _ _ _ h => h) (Or.inl ⟨by rfl, ?_⟩) hHeld ?_
        rotate_left
        · intro W' hSw; (try dsimp only at hSw); go_simp; try (with_reducible rfl)
        (try simp only [Act.put, List.getElem_toArray, List.getElem_cons_zero, List.getElem_cons_succ, List.setIfInBounds_toArray, List.set_cons_zero, List.set_cons_succ])
        refine wpAnyH_take (i := 7) (v := ?_) rfl (by kernel_rfl) (by kernel_rfl) (by kernel_rfl) (fun _ _ _ h => h) (Or.inl ⟨by rfl, ?_⟩) hHeld ?_
        rotate_left
        · intro W' hSw; (try dsimp only at hSw); go_simp; try (with_reducible rfl)
        (try simp only [Act.put, List.getElem_toArray, List.getElem_cons_zero, List.getElem_cons_succ, List.setIfInBounds_toArray, List.set_cons_zero, List.set_cons_succ])
        refine wpAnyH_take (i := 8) (v := ?_) rfl (by kernel_rfl) (by kernel_rfl) (by kernel_rfl) (fun _ _ _ h => h) (Or.inl ⟨by rfl, ?_⟩) hHeld ?_
        rotate_left
        · intro W' hSw; (try dsimp only at hSw); go_simp; try (with_reducible rfl)
        (try simp only [Act.put, List.getElem_toArray, List.getElem_cons_zero, List.getElem_cons_succ, List.setIfInBounds_toArray, List.set_cons_zero, List.set_cons_succ])
        refine wpAnyH_take (i := 9) (v := ?_) rfl (by kernel_rfl) (by kernel_rfl) (by kernel_rfl) (fun _ _ _ h => h) (Or.inl ⟨by rfl, ?_⟩) hHeld ?_
        rotate_left
        · intro W' hSw; (try dsimp only at hSw); go_simp; try (with_reducible rfl)
        (try simp only [Act.put, List.getElem_toArray, List.getElem_cons_zero, List.getElem_cons_succ, List.setIfInBounds_toArray, List.set_cons_zero, List.set_cons_succ])
        refine wpAnyH_ready (rs := [10]) (by kernel_rfl) (by simp) ?_
        refine AllReadyH.cons rfl (fun K hK => ?_) AllReadyH.nil
        go_simp
        refine Calls.mono (HC.out _ hHeld.2.2.2.2.2.2.2.2.2.2.2.2.2.2.2.2.2.2) ?_
        rintro r u1 ⟨rfl, hb2'⟩
        refine hK.out _ _ (HW.out _ (bthen hHeld.2.2.2.2.2.2.2.2.2.2.2.2.2.2.2.2.2.2 hb2')) (fun hHeld2 => ?_)
        clear hK
        (try simp only [Act.put, List.getElem_toArray, List.getElem_cons_zero, List.getElem_cons_succ, List.setIfInBounds_toArray, List.set_cons_zero, List.set_cons_succ])
        refine wpAnyH_take (i := 11) (v := ?_) rfl (by kernel_rfl) (by kernel_rfl) (by kernel_rfl) (fun _ _ _ h => h) (Or.inl ⟨by rfl, ?_⟩) hHeld2 ?_
        rotate_left
        · intro W' hSw; (try dsimp only at hSw); go_simp; try (with_reducible rfl)
        (try simp only [Act.put, List.getElem_toArray, List.getElem_cons_zero, List.getElem_cons_succ, List.setIfInBounds_toArray, List.set_cons_zero, List.set_cons_succ])
        refine wpAnyH_done (by kernel_rfl) ?_ _
        go_wp2_with fail
        go_meet
        exact ⟨rfl, hHeld2.2.2.2.2.2.2.2.2.2.2.2.2.2.2.2.2.2.2⟩
      case rest =>
        obtain ⟨rfl, hb3⟩ := hcut
        have HX3 := Lib.hid ((hb3.block _ (Array.getElem?_eq_some_iff.1 HXX.out).1).trans HXX.out)
        have HY3 := Lib.hid ((hb3.block _ (Array.getElem?_eq_some_iff.1 HYY.out).1).trans HYY.out)
        have HB3 := Lib.hid (bthen HBB.out hb3)
        clear hb3
        cases X with
        | false =>
          have HV := Lib.hid (HV0.out rfl)
          go_wp2_with fail
          go_ret
          exact ⟨by rw [HV.out]; rfl, HB3.out⟩
        | true =>
          go_wp2_with fail
          go_roundw
          case rel => exact ⟨i + 1, HLT.out, by go_num, HNX.out, HX3.out, HY3.out, HB3.out⟩
          case measure => have := HLT.out; simp [intOf]; omega
    · have hd : decide ((i : Int) < (n : Int)) = false := by simp; omega
      have HL := Lib.hid (show listB sameB xs ys = true by
        have h := HT.out
        exact zip_all (n := n) (by have := HN.out; omega) (by have := HN'.out; omega) (by rwa [show i = n by omega] at h))
      have HV := Lib.hid (show V = true by rw [HE.out, HL.out]; rfl)
      go_wp2_with fail
      go_ret
      exact ⟨by rw [HV.out]; rfl, HBB.out⟩
end Go.Proofs.Ytjldddpchiaalaa
namespace Go.Proofs.Ytjldddpchiaalaa
open Go.RowKit
set_option maxRecDepth 100000 in
set_option maxHeartbeats 8000000 in
theorem refSame_any (m k : Md) (F G F' G' : Option Addr) (n cf ng cg n' cf' ng' cg' : Nat) (w : World) (hok : MdOk m) (hok' : MdOk k) (hnf : m.f.length = n) (hng : m.g.length = ng) (hnf' : k.f.length = n') (hng' : k.g.length = ng') (hS : MdAt w (.slice F n cf) (.slice G ng cg) m) (hS' : MdAt w (.slice F' n' cf') (.slice G' ng' cg') k) :
    Calls Try.prog 10 #[.agg #[.slice F n cf, .slice G ng cg], .agg #[.slice F' n' cf', .slice G' ng' cg']] w fun E w' => E = .returned (.bool (sameM m k)) ∧ Below w.heap.size w w' := by
  have HE0 := Lib.hid (show sameM m k = (listB sameF m.f k.f && listB sameG m.g k.g) from rfl)
  obtain ⟨xs, hxs⟩ : ∃ xs, m.f = xs := ⟨_, rfl⟩
  obtain ⟨ys, hys⟩ : ∃ ys, k.f = ys := ⟨_, rfl⟩
  obtain ⟨us, hus⟩ : ∃ us, m.g = us := ⟨_, rfl⟩
  obtain ⟨vs, hvs⟩ : ∃ vs, k.g = vs := ⟨_, rfl⟩
  have HN := Lib.hid (show xs.length ≤ n ∧ n ≤ xs.length by rw [← hxs]; omega)
  have HN' := Lib.hid (show ys.length ≤ n' ∧ n' ≤ ys.length by rw [← hys]; omega)
  have HNG := Lib.hid (show us.length ≤ ng ∧ ng ≤ us.length by rw [← hus]; omega)
  have HNG' := Lib.hid (show vs.length ≤ ng' ∧ ng' ≤ vs.length by rw [← hvs]; omega)
  have HS := Lib.hid (show Funcs w (.slice F n cf) xs from hxs ▸ hS.1)
  have HS' := Lib.hid (show Funcs w (.slice F' n' cf') ys from hys ▸ hS'.1)
  have HSG := Lib.hid (show Globs w (.slice G ng cg) us from hus ▸ hS.2)
  have HSG' := Lib.hid (show Globs w (.slice G' ng' cg') vs from hvs ▸ hS'.2)
  have HOK := Lib.hid (show ∀ x ∈ xs, FnOk x from hxs ▸ hok.1)
  have HOK' := Lib.hid (show ∀ x ∈ ys, FnOk x from hys ▸ hok'.1)
  have n1 : (n : Int) ≤ 9223372036854775807 := by have := hok.2.2.1; omega
  have g1 : (ng : Int) ≤ 9223372036854775807 := by have := hok.2.2.2; omega
  rw [hxs, hys, hus, hvs] at HE0
  clear hS hS' hok hok' hnf hng hnf' hng' hxs hys hus hvs
  obtain ⟨V, hV⟩ : ∃ V, sameM m k = V := ⟨_, rfl⟩
  have HE := Lib.hid (show V = (listB sameF xs ys && listB sameG us vs) from hV.symm.trans HE0.out)
  clear HE0
  rw [hV]
  clear hV
  go_enter Try.func10, Try.ntmps10
  go_upto_region 1 with fail
  have HX := Lib.hid (show ((w.alloc (.cells #[.slice F n cf, .slice G ng cg] 25)).alloc (.cells #[.slice F' n' cf', .slice G' ng' cg'] 25)).heap[w.heap.size]? = some (.cells #[.slice F n cf, .slice G ng cg] 25 (0, 0)) from ((balloc (Below.refl _ _) (.cells #[.slice F' n' cf', .slice G' ng' cg'] 25)).block w.heap.size (Array.getElem?_eq_some_iff.1 (heap_alloc_new w (.cells #[.slice F n cf, .slice G ng cg] 25))).1).trans (heap_alloc_new w (.cells #[.slice F n cf, .slice G ng cg] 25)))
  have HY := Lib.hid (show ((w.alloc (.cells #[.slice F n cf, .slice G ng cg] 25)).alloc (.cells #[.slice F' n' cf', .slice G' ng' cg'] 25)).heap[w.heap.size + 1]? = some (.cells #[.slice F' n' cf', .slice G' ng' cg'] 25 (0, 0)) from by
    have e := heap_alloc_new (w.alloc (.cells #[.slice F n cf, .slice G ng cg] 25)) (.cells #[.slice F' n' cf', .slice G' ng' cg'] 25)
    rwa [World.size_alloc] at e)
  have HB := Lib.hid (boxes2 w #[.slice F n cf, .slice G ng cg] #[.slice F' n' cf', .slice G' ng' cg'] 25)
  generalize (w.alloc (.cells #[.slice F n cf, .slice G ng cg] 25)).alloc (.cells #[.slice F' n' cf', .slice G' ng' cg'] 25) = W0 at *
  have c0 := Lib.cell_of_heap HX.out 0
  have c1 := Lib.cell_of_heap HX.out 1
  simp only [List.getElem?_toArray, List.getElem?_cons_zero, List.getElem?_cons_succ] at c0 c1
  have d0 := Lib.cell_of_heap HY.out 0
  have d1 := Lib.cell_of_heap HY.out 1
  simp only [List.getElem?_toArray, List.getElem?_cons_zero, List.getElem?_cons_succ] at d0 d1
  by_cases hl : n = n'
  case neg =>
    have nl : ((n : Int) == (n' : Int)) = false := by simp; omega
    have HV := Lib.hid (show V = false by rw [HE.out, listB_len (by have := HN.out; have := HN'.out; omega)]; simp)
    go_wp2_with fail
    go_ret
    exact ⟨by rw [HV.out]; rfl, HB.out⟩
  subst hl
  by_cases hlg : ng = ng'
  case neg =>
    have nlg : ((ng : Int) == (ng' : Int)) = false := by simp; omega
    have HV := Lib.hid (show V = false by rw [HE.out, listB_len (p := sameG) (by have := HNG.out; have := HNG'.out; omega)]; simp)
    go_wp2_with fail
    go_ret
    exact ⟨by rw [HV.out]; rfl, HB.out⟩
  subst hlg
  go_wp2_with fail
  clear c0 c1 d0 d1
  go_loopw [5] (fun iv wr => ∃ i : Nat, i ≤ n ∧ iv = .int .i64 i ∧ ((xs.take i).zip (ys.take i)).all (fun x => sameF x.1 x.2) = true ∧ wr.heap[w.heap.size]? = some (.cells #[.slice F n cf, .slice G ng cg] 25 (0, 0)) ∧ wr.heap[w.heap.size + 1]? = some (.cells #[.slice F' n cf', .slice G' ng cg'] 25 (0, 0)) ∧ Below w.heap.size w wr) (fun iv _ => n - (intOf iv).toNat)
  case atStart => exact ⟨0, Nat.zero_le _, rfl, by simp, HX.out, HY.out, HB.out⟩
  case round =>
    obtain ⟨i, hi, rfl, hs, hxx, hyy, hb⟩ := hrel
    have HT := Lib.hid hs
    have HXX := Lib.hid hxx
    have HYY := Lib.hid hyy
    have HBB := Lib.hid hb
    have c0 := Lib.cell_of_heap hxx 0
    simp only [List.getElem?_toArray, List.getElem?_cons_zero] at c0
    have d0 := Lib.cell_of_heap hyy 0
    simp only [List.getElem?_toArray, List.getElem?_cons_zero] at d0
    clear hs hxx hyy
    by_cases hlt : i < n
    · have hm : i < xs.length := by have := HN.out; omega
      have hk : i < ys.length := by have := HN'.out; omega
      obtain ⟨b1, off, hA, hbl, e0⟩ := RowOf.at_ (HS.out.next hb) hm
      obtain ⟨b2, off2, hA2, hbl2, e2⟩ := RowOf.at_ (HS'.out.next hb) hk
      subst hA hA2
      have HNX := Lib.hid (zip_take hm hk HT.out)
      have HNO := Lib.hid (fun h => zip_no (p := sameF) hm hk h)
      have hox := HOK.out _ (List.getElem_mem hm)
      have hoy := HOK'.out _ (List.getElem_mem hk)
      obtain ⟨x, hx⟩ : ∃ x, xs[i] = x := ⟨_, rfl⟩
      obtain ⟨y, hy⟩ : ∃ y, ys[i] = y := ⟨_, rfl⟩
      rw [hx] at e0 HNX HNO hox
      rw [hy] at e2 HNX HNO hoy
      obtain ⟨g0, gg1, g2, A3, z3, g3, hi3⟩ := e0
      obtain ⟨k0, k1, k2, B3, v3, k3, hj3⟩ := e2
      have HC := Lib.hid (fun (U : World) (hu : Below wr.heap.size wr U) => refSameFunc_any x.s y.s x.b x.p y.b y.p x.l y.l A3 B3 _ z3 _ v3 U rfl rfl hox.2.1 hoy.2.1 hox.2.2 hoy.2.2 (hi3.next hu) (hj3.next hu))
      rw [show sameF ⟨x.s, x.b, x.p, x.l⟩ ⟨y.s, y.b, y.p, y.l⟩ = sameF x y from rfl] at HC
      obtain ⟨x0, hx0⟩ : ∃ z, x.s = z := ⟨_, rfl⟩
      obtain ⟨x1, hx1⟩ : ∃ z, x.b = z := ⟨_, rfl⟩
      obtain ⟨x2, hx2⟩ : ∃ z, x.p = z := ⟨_, rfl⟩
      obtain ⟨x3, hx3⟩ : ∃ z, x.l.length = z := ⟨_, rfl⟩
      obtain ⟨y0, hy0⟩ : ∃ z, y.s = z := ⟨_, rfl⟩
      obtain ⟨y1, hy1⟩ : ∃ z, y.b = z := ⟨_, rfl⟩
      obtain ⟨y2, hy2⟩ : ∃ z, y.p = z := ⟨_, rfl⟩
      obtain ⟨y3, hy3⟩ : ∃ z, y.l.length = z := ⟨_, rfl⟩
      rw [hx0, hx1, hx2, hx3, hy0, hy1, hy2, hy3] at HC
      rw [hx0] at g0
      rw [hy0] at k0
      rw [hx1] at gg1
      rw [hy1] at k1
      rw [hx2] at g2
      rw [hy2] at k2
      rw [hx3] at g3
      rw [hy3] at k3
      clear hi3 hj3 hx0 hx1 hx2 hx3 hy0 hy1 hy2 hy3
      obtain ⟨X, hX⟩ : ∃ X, sameF x y = X := ⟨_, rfl⟩
      rw [hX] at HC HNX HNO
      have HV0 := Lib.hid (show X = false → V = false from fun h => by rw [HE.out, HNO.out h]; rfl)
      have hk0 : (0 : Int) ≤ (i : Int) := Int.natCast_nonneg _
      have hk1 : (i : Int) < (n : Int) := by omega
      have HLT := Lib.hid hlt
      have HW := Lib.hid (fun (U : World) (hU : Below wr.heap.size wr U) => (show U.cell? ⟨w.heap.size, 0, none⟩ = some (.slice (some ⟨b1, off, none⟩) n cf) ∧ U.cell? ⟨w.heap.size + 1, 0, none⟩ = some (.slice (some ⟨b2, off2, none⟩) n cf') ∧ U.cell? ⟨b1, off + i * 4, none⟩ = some (.string x0) ∧ U.cell? ⟨b1, off + i * 4 + 1, none⟩ = some (.int .i64 x1) ∧ U.cell? ⟨b1, off + i * 4 + 2, none⟩ = some (.int .i64 x2) ∧ U.cell? ⟨b1, off + i * 4 + 3, none⟩ = some (.slice A3 x3 z3) ∧ U.cell? ⟨b2, off2 + i * 4, none⟩ = some (.string y0) ∧ U.cell? ⟨b2, off2 + i * 4 + 1, none⟩ = some (.int .i64 y1) ∧ U.cell? ⟨b2, off2 + i * 4 + 2, none⟩ = some (.int .i64 y2) ∧ U.cell? ⟨b2, off2 + i * 4 + 3, none⟩ = some (.slice B3 y3 v3) ∧ Below wr.heap.size wr U from by
        have hxu := (hU.block _ (Array.getElem?_eq_some_iff.1 HXX.out).1).trans HXX.out
        have hyu := (hU.block _ (Array.getElem?_eq_some_iff.1 HYY.out).1).trans HYY.out
        exact ⟨Lib.cell_of_heap hxu 0, Lib.cell_of_heap hyu 0, (cellNext hbl hU _).trans g0, (cellNext hbl hU _).trans gg1, (cellNext hbl hU _).trans g2, (cellNext hbl hU _).trans g3, (cellNext hbl2 hU _).trans k0, (cellNext hbl2 hU _).trans k1, (cellNext hbl2 hU _).trans k2, (cellNext hbl2 hU _).trans k3, hU⟩))
      clear hx hy hm hk hlt hX hox hoy HNO hb hbl hbl2 g0 k0 gg1 k1 g2 k2 g3 k3
      go_upto_region 6 with fail
      clear c0 d0
      go_cut [6] from 31 to 42 (fun v7 wx => v7 = .bool X ∧ Below wr.heap.size wr wx)
      case first =>
        have hd := HW.out _ (Below.refl _ wr).drew
        refine wp_region_held_drew (S := (fun U => U.cell? ⟨w.heap.size, 0, none⟩ = some (.slice (some ⟨b1, off, none⟩) n cf) ∧ U.cell? ⟨w.heap.size + 1, 0, none⟩ = some (.slice (some ⟨b2, off2, none⟩) n cf') ∧ U.cell? ⟨b1, off + i * 4, none⟩ = some (.string x0) ∧ U.cell? ⟨b1, off + i * 4 + 1, none⟩ = some (.int .i64 x1) ∧ U.cell? ⟨b1, off + i * 4 + 2, none⟩ = some (.int .i64 x2) ∧ U.cell? ⟨b1, off + i * 4 + 3, none⟩ = some (.slice A3 x3 z3) ∧ U.cell? ⟨b2, off2 + i * 4, none⟩ = some (.string y0) ∧ U.cell? ⟨b2, off2 + i * 4 + 1, none⟩ = some (.int .i64 y1) ∧ U.cell? ⟨b2, off2 + i * 4 + 2, none⟩ = some (.int .i64 y2) ∧ U.cell? ⟨b2, off2 + i * 4 + 3, none⟩ = some (.slice B3 y3 v3) ∧ Below wr.heap.size wr U)) (by kernel_rfl) hd (fun hHeld => ?_)
        refine wpAnyH_take (i := 0) (v := ?_) rfl (by kernel_rfl) (by kernel_rfl) (by kernel_rfl) (fun _ _ _ h => h) (Or.inl ⟨by rfl, ?_⟩) hHeld ?_
        rotate_left
        · intro W' hSw; (try dsimp only at hSw); go_simp; try (with_reducible rfl)
        (try simp only [Act.put, List.getElem_toArray, List.getElem_cons_zero, List.setIfInBounds_toArray, List.set_cons_zero, List.set_cons_succ])
        refine wpAnyH_take (i := 1) (v := ?_) rfl (by kernel_rfl) (by kernel_rfl) (by kernel_rfl) (fun _ _ _ h => h) (Or.inl ⟨by rfl, ?_⟩) hHeld ?_
        rotate_left
        · intro W' hSw; (try dsimp only at hSw); go_simp; try (with_reducible rfl)
        (try simp only [Act.put, List.getElem_toArray, List.getElem_cons_zero, List.getElem_cons_succ, List.setIfInBounds_toArray, List.set_cons_zero, List.set_cons_succ])
        refine wpAnyH_take (i := 2) (v := ?_) rfl (by kernel_rfl) (by kernel_rfl) (by kernel_rfl) (fun _ _ _ h => h) (Or.inl ⟨by rfl, ?_⟩) hHeld ?_
        rotate_left
        · intro W' hSw; (try dsimp only at hSw); go_simp; try (with_reducible rfl)
        (try simp only [Act.put, List.getElem_toArray, List.getElem_cons_zero, List.getElem_cons_succ, List.setIfInBounds_toArray, List.set_cons_zero, List.set_cons_succ])
        refine wpAnyH_take (i := 3) (v := ?_) rfl (by kernel_rfl) (by kernel_rfl) (by kernel_rfl) (fun _ _ _ h => h) (Or.inl ⟨by rfl, ?_⟩) hHeld ?_
        rotate_left
        · intro W' hSw; (try dsimp only at hSw); go_simp; try (with_reducible rfl)
        (try simp only [Act.put, List.getElem_toArray, List.getElem_cons_zero, List.getElem_cons_succ, List.setIfInBounds_toArray, List.set_cons_zero, List.set_cons_succ])
        refine wpAnyH_take (i := 4) (v := ?_) rfl (by kernel_rfl) (by kernel_rfl) (by kernel_rfl) (fun _ _ _ h => h) (Or.inl ⟨by rfl, ?_⟩) hHeld ?_
        rotate_left
        · intro W' hSw; (try dsimp only at hSw); go_simp; try (with_reducible rfl)
        (try simp only [Act.put, List.getElem_toArray, List.getElem_cons_zero, List.getElem_cons_succ, List.setIfInBounds_toArray, List.set_cons_zero, List.set_cons_succ])
        refine wpAnyH_take (i := 5) (v := ?_) rfl (by kernel_rfl) (by kernel_rfl) (by kernel_rfl) (fun _ _ _ h => h) (Or.inl ⟨by rfl, ?_⟩) hHeld ?_
        rotate_left
        · intro W' hSw; (try dsimp only at hSw); go_simp; try (with_reducible rfl)
        (try simp only [Act.put, List.getElem_toArray, List.getElem_cons_zero, List.getElem_cons_succ, List.setIfInBounds_toArray, List.set_cons_zero, List.set_cons_succ])
        refine wpAnyH_take (i := 6) (v := ?_) rfl (by kernel_rfl) (by kernel_rfl) (by kernel_rfl) (fun _ _ _ h => h) (Or.inl ⟨by rfl, ?_⟩) hHeld ?_
        rotate_left
        · intro W' hSw; (try dsimp only at hSw); go_simp; try (with_reducible rfl)
        (try simp only [Act.put, List.getElem_toArray, List.getElem_cons_zero, List.getElem_cons_succ, List.setIfInBounds_toArray, List.set_cons_zero, List.set_cons_succ])
        refine wpAnyH_take (i := 7) (v := ?_) rfl (by kernel_rfl) (by kernel_rfl) (by kernel_rfl) (fun _ _ _ h => h) (Or.inl ⟨by rfl, ?_⟩) hHeld ?_
        rotate_left
        · intro W' hSw; (try dsimp only at hSw); go_simp; try (with_reducible rfl)
        (try simp only [Act.put, List.getElem_toArray, List.getElem_cons_zero, List.getElem_cons_succ, List.setIfInBounds_toArray, List.set_cons_zero, List.set_cons_succ])
        refine wpAnyH_take (i := 8) (v := ?_) rfl (by kernel_rfl) (by kernel_rfl) (by kernel_rfl) (fun _ _ _ h => h) (Or.inl ⟨by rfl, ?_⟩) hHeld ?_
        rotate_left
        · intro W' hSw; (try dsimp only at hSw); go_simp; try (with_reducible rfl)
        (try simp only [Act.put, List.getElem_toArray, List.getElem_cons_zero, List.getElem_cons_succ, List.setIfInBounds_toArray, List.set_cons_zero, List.set_cons_succ])
        refine wpAnyH_take (i := 9) (v := ?_) rfl (by kernel_rfl) (by kernel_rfl) (by kernel_rfl) (fun _ _ _ h => h) (Or.inl ⟨by rfl, ?_⟩) hHeld ?_
        rotate_left
        · intro W' hSw; (try dsimp only at hSw); go_simp; try (with_reducible rfl)
        (try simp only [Act.put, List.getElem_toArray, List.getElem_cons_zero, List.getElem_cons_succ, List.setIfInBounds_toArray, List.set_cons_zero, List.set_cons_succ])
        refine wpAnyH_ready (rs := [10]) (by kernel_rfl) (by simp) ?_
        refine AllReadyH.cons rfl (fun K hK => ?_) AllReadyH.nil
        go_simp
        refine Calls.mono (HC.out _ hHeld.2.2.2.2.2.2.2.2.2.2) ?_
        rintro r u1 ⟨rfl, hb2'⟩
        refine hK.out _ _ (HW.out _ (bthen hHeld.2.2.2.2.2.2.2.2.2.2 hb2')) (fun hHeld2 => ?_)
        clear hK
        (try simp only [Act.put, List.getElem_toArray, List.getElem_cons_zero, List.getElem_cons_succ, List.setIfInBounds_toArray, List.set_cons_zero, List.set_cons_succ])
        refine wpAnyH_take (i := 11) (v := ?_) rfl (by kernel_rfl) (by kernel_rfl) (by kernel_rfl) (fun _ _ _ h => h) (Or.inl ⟨by rfl, ?_⟩) hHeld2 ?_
        rotate_left
        · intro W' hSw; (try dsimp only at hSw); go_simp; try (with_reducible rfl)
        (try simp only [Act.put, List.getElem_toArray, List.getElem_cons_zero, List.getElem_cons_succ, List.setIfInBounds_toArray, List.set_cons_zero, List.set_cons_succ])
        refine wpAnyH_done (by kernel_rfl) ?_ _
        go_wp2_with fail
        go_meet
        exact ⟨rfl, hHeld2.2.2.2.2.2.2.2.2.2.2⟩
      case rest =>
        obtain ⟨rfl, hb3⟩ := hcut
        have HX3 := Lib.hid ((hb3.block _ (Array.getElem?_eq_some_iff.1 HXX.out).1).trans HXX.out)
        have HY3 := Lib.hid ((hb3.block _ (Array.getElem?_eq_some_iff.1 HYY.out).1).trans HYY.out)
        have HB3 := Lib.hid (bthen HBB.out hb3)
        clear hb3
        cases X with
        | false =>
          have HV := Lib.hid (HV0.out rfl)
          go_wp2_with fail
          go_ret
          exact ⟨by rw [HV.out]; rfl, HB3.out⟩
        | true =>
          go_wp2_with fail
          go_roundw
          case rel => exact ⟨i + 1, HLT.out, by go_num, HNX.out, HX3.out, HY3.out, HB3.out⟩
          case measure => have := HLT.out; simp [intOf]; omega
    · have hd : decide ((i : Int) < (n : Int)) = false := by simp; omega
      have HL := Lib.hid (show listB sameF xs ys = true by
        have h := HT.out
        exact zip_all (n := n) (by have := HN.out; omega) (by have := HN'.out; omega) (by rwa [show i = n by omega] at h))
      have HE2 := Lib.hid (show V = listB sameG us vs by rw [HE.out, HL.out]; rfl)
      go_wp2_with fail
      clear c0 d0 hd hlt hb
      go_loopw [7] (fun iv wr => ∃ i : Nat, i ≤ ng ∧ iv = .int .i64 i ∧ ((us.take i).zip (vs.take i)).all (fun x => sameG x.1 x.2) = true ∧ wr.heap[w.heap.size]? = some (.cells #[.slice F n cf, .slice G ng cg] 25 (0, 0)) ∧ wr.heap[w.heap.size + 1]? = some (.cells #[.slice F' n cf', .slice G' ng cg'] 25 (0, 0)) ∧ Below w.heap.size w wr) (fun iv _ => ng - (intOf iv).toNat)
      case atStart => exact ⟨0, Nat.zero_le _, rfl, by simp, HXX.out, HYY.out, HBB.out⟩
      case round =>
        obtain ⟨i, hi, rfl, hs, hxx, hyy, hb⟩ := hrel
        have HT := Lib.hid hs
        have HXX := Lib.hid hxx
        have HYY := Lib.hid hyy
        have HBB := Lib.hid hb
        have c0 := Lib.cell_of_heap hxx 0
        have c1 := Lib.cell_of_heap hxx 1
        simp only [List.getElem?_toArray, List.getElem?_cons_zero, List.getElem?_cons_succ] at c0 c1
        have d0 := Lib.cell_of_heap hyy 0
        have d1 := Lib.cell_of_heap hyy 1
        simp only [List.getElem?_toArray, List.getElem?_cons_zero, List.getElem?_cons_succ] at d0 d1
        clear hs hxx hyy
        by_cases hlt : i < ng
        · have hm : i < us.length := by have := HNG.out; omega
          have hk : i < vs.length := by have := HNG'.out; omega
          obtain ⟨b1, off, hA, hbl, e0⟩ := RowOf.at_ (HSG.out.next hb) hm
          obtain ⟨b2, off2, hA2, hbl2, e2⟩ := RowOf.at_ (HSG'.out.next hb) hk
          subst hA hA2
          have HNX := Lib.hid (zip_take hm hk HT.out)
          have HNO := Lib.hid (fun h => zip_no (p := sameG) hm hk h)
          obtain ⟨⟨x0, x1, x2, x3⟩, hx⟩ : ∃ x, us[i] = x := ⟨_, rfl⟩
          obtain ⟨⟨y0, y1, y2, y3⟩, hy⟩ : ∃ y, vs[i] = y := ⟨_, rfl⟩
          rw [hx] at e0 HNX HNO
          rw [hy] at e2 HNX HNO
          obtain ⟨g0, gg1, g2, g3⟩ := e0
          obtain ⟨k0, k1, k2, k3⟩ := e2
          simp only at g0 gg1 g2 g3 k0 k1 k2 k3
          obtain ⟨X, hX⟩ : ∃ X, sameG ⟨x0, x1, x2, x3⟩ ⟨y0, y1, y2, y3⟩ = X := ⟨_, rfl⟩
          have HQ := Lib.hid (hX.symm.trans (sameG_eq _ _ _ _ _ _ _ _))
          rw [hX] at HNX HNO
          have HV0 := Lib.hid (show X = false → V = false from fun h => by rw [HE2.out]; exact HNO.out h)
          have hk0 : (0 : Int) ≤ (i : Int) := Int.natCast_nonneg _
          have hk1 : (i : Int) < (ng : Int) := by omega
          have HLT := Lib.hid hlt
          clear hx hy hm hk hlt hb hX HNO hbl hbl2
          go_upto_region 12 with fail
          cases h0 : x0 == y0 with
          | false =>
            have m0 : (x0.toList == y0.toList) = false := by rw [← beq_toListBytes]; exact h0
            have HX := Lib.hid (show X = false by rw [HQ.out]; rw [h0]; rfl)
            have HV := Lib.hid (HV0.out HX.out)
            go_quiet (fail)
            go_wp2_with fail
            go_ret
            exact ⟨by rw [HV.out]; rfl, below_drewN HBB.out _⟩
          | true =>
            have m0 : (x0.toList == y0.toList) = true := by rw [← beq_toListBytes]; exact h0
            rw [h0] at HQ
            clear h0
            by_cases h1 : x1 = y1
            case neg =>
              have m1 : (x1 == y1) = false := by simpa using h1
              have HX := Lib.hid (show X = false by rw [HQ.out]; rw [m1]; rfl)
              have HV := Lib.hid (HV0.out HX.out)
              go_quiet (fail)
              go_wp2_with fail
              go_ret
              exact ⟨by rw [HV.out]; rfl, below_drewN HBB.out _⟩
            have m1 : (x1 == y1) = true := by simpa using h1
            rw [m1] at HQ
            clear h1
            cases m2 : x2 == y2 with
            | false =>
              have HX := Lib.hid (show X = false by rw [HQ.out]; rw [m2]; rfl)
              have HV := Lib.hid (HV0.out HX.out)
              go_quiet (fail)
              go_wp2_with fail
              go_ret
              exact ⟨by rw [HV.out]; rfl, below_drewN HBB.out _⟩
            | true =>
              rw [m2] at HQ
              by_cases h3 : x3 = y3
              case neg =>
                have m3 : (x3 == y3) = false := by simpa using h3
                have HX := Lib.hid (show X = false by rw [HQ.out]; rw [m3]; rfl)
                have HV := Lib.hid (HV0.out HX.out)
                go_quiet (fail)
                go_wp2_with fail
                go_ret
                exact ⟨by rw [HV.out]; rfl, below_drewN HBB.out _⟩
              have m3 : (x3 == y3) = true := by simpa using h3
              rw [m3] at HQ
              clear h3
              have HX := Lib.hid (show X = true by rw [HQ.out]; rfl)
              have HTR := Lib.hid (HNX.out.trans HX.out)
              go_quiet (fail)
              go_wp2_with fail
              go_roundw
              case rel => exact ⟨i + 1, HLT.out, by go_num, HTR.out, HXX.out, HYY.out, below_drewN HBB.out _⟩
              case measure => have := HLT.out; simp [intOf]; omega
        · have hd : decide ((i : Int) < (ng : Int)) = false := by simp; omega
          have HV := Lib.hid (show V = true by
            rw [HE2.out]
            have h := HT.out
            exact zip_all (n := ng) (by have := HNG.out; omega) (by have := HNG'.out; omega) (by rwa [show i = ng by omega] at h))
          go_wp2_with fail
          go_ret
          exact ⟨by rw [HV.out]; rfl, HBB.out⟩
end Go.Proofs.Ytjldddpchiaalaa
