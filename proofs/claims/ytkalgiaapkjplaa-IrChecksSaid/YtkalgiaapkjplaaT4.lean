/- Package ir: which modules are the same? -/
import Derived.Test.YtkalgiaapkjplaaK15
import Derived.BigQuiet
namespace Go.Proofs.Ytkalgiaapkjplaa
open Go.RowKit

def listB {α : Type} (p : α → α → Bool) (a b : List α) : Bool := (a.length == b.length) && (a.zip b).all (fun x => p x.1 x.2)
def sameT (t u : Tm) : Bool := t.k == u.k && t.a == u.a && t.t == u.t && decide (t.l = u.l) && t.e == u.e && decide (t.m = u.m)
def sameB (x y : Bk) : Bool := x.p == y.p && listB sameI x.i y.i && sameT x.e y.e
def sameF (x y : Fn) : Bool := x.s == y.s && x.b == y.b && x.p == y.p && listB sameB x.l y.l
def sameG (x y : Gl) : Bool := x.s == y.s && x.b == y.b && x.h == y.h && x.i == y.i
def sameM (m k : Md) : Bool := listB sameF m.f k.f && listB sameG m.g k.g
theorem listB_len {α : Type} {p : α → α → Bool} {a b : List α} (h : a.length ≠ b.length) : listB p a b = false := by
  unfold listB
  rw [show (a.length == b.length) = false by simpa using h]
  rfl
theorem zip_take {α : Type} {p : α → α → Bool} {a b : List α} {i : Nat} (ha : i < a.length) (hb : i < b.length) (h : ((a.take i).zip (b.take i)).all (fun x => p x.1 x.2) = true) :
    ((a.take (i + 1)).zip (b.take (i + 1))).all (fun x => p x.1 x.2) = p a[i] b[i] := by
  rw [List.take_succ_eq_append_getElem ha, List.take_succ_eq_append_getElem hb, List.zip_append (by simp; omega), List.all_append, h]
  simp
theorem zip_no {α : Type} {p : α → α → Bool} {a b : List α} {i : Nat} (ha : i < a.length) (hb : i < b.length) (h : p a[i] b[i] = false) : listB p a b = false := by
  unfold listB
  have : (a.zip b).all (fun x => p x.1 x.2) = false := by
    rw [List.all_eq_false]
    exact ⟨(a.zip b)[i]'(by simp; omega), List.getElem_mem _, by rw [List.getElem_zip]; simp [h]⟩
  rw [this, Bool.and_false]
theorem zip_all {α : Type} {p : α → α → Bool} {a b : List α} {n : Nat} (ha : a.length = n) (hb : b.length = n) (h : ((a.take n).zip (b.take n)).all (fun x => p x.1 x.2) = true) : listB p a b = true := by
  rw [List.take_of_length_le (by omega), List.take_of_length_le (by omega)] at h
  unfold listB
  rw [h, ha, hb]
  simp
set_option maxRecDepth 100000 in
set_option maxHeartbeats 8000000 in
theorem sameEnd_any (k a t e k' a' t' e' : Int) (l h l' h' : List Int) (A B A' B' : Option Addr) (n c m d n' c' m' d' : Nat) (w : World) (h9 : n ≤ 9223372036854775807) (h9' : m ≤ 9223372036854775807) (hS : Ints w (.slice A n c) l) (hS' : Ints w (.slice A' n' c') l') (hR : Ints w (.slice B m d) h) (hR' : Ints w (.slice B' m' d') h') :
    Calls Try.prog 112 #[.agg #[.int .i64 k, .int .i64 a, .int .i64 t, .slice A n c, .int .i64 e, .slice B m d], .agg #[.int .i64 k', .int .i64 a', .int .i64 t', .slice A' n' c', .int .i64 e', .slice B' m' d']] w fun E w' => E = .returned (.bool (sameT ⟨k, a, t, l, e, h⟩ ⟨k', a', t', l', e', h'⟩)) ∧ Below w.heap.size w w' := by
  have HC1 := Lib.hid (fun (W : World) (hb : Below w.heap.size w W) => iequal_any l l' A A' n n' c c' W (hS.next hb) (hS'.next hb) h9)
  have HC2 := Lib.hid (fun (W : World) (hb : Below w.heap.size w W) => iequal_any h h' B B' m m' d d' W (hR.next hb) (hR'.next hb) h9')
  clear hS hS' hR hR' h9 h9'
  obtain ⟨V, hV⟩ : ∃ V, sameT ⟨k, a, t, l, e, h⟩ ⟨k', a', t', l', e', h'⟩ = V := ⟨_, rfl⟩
  have HE := Lib.hid (show V = ((k == k') && (a == a') && (t == t') && decide (l = l') && (e == e') && decide (h = h')) from hV.symm)
  rw [hV]
  clear hV
  go_enter Try.func112, Try.ntmps112
  go_upto_region 1 with fail
  have HX := Lib.hid (show ((w.alloc (.cells #[.int .i64 k, .int .i64 a, .int .i64 t, .slice A n c, .int .i64 e, .slice B m d] 55)).alloc (.cells #[.int .i64 k', .int .i64 a', .int .i64 t', .slice A' n' c', .int .i64 e', .slice B' m' d'] 55)).heap[w.heap.size]? = some (.cells #[.int .i64 k, .int .i64 a, .int .i64 t, .slice A n c, .int .i64 e, .slice B m d] 55 (0, 0)) from ((balloc (Below.refl _ _) (.cells #[.int .i64 k', .int .i64 a', .int .i64 t', .slice A' n' c', .int .i64 e', .slice B' m' d'] 55)).block w.heap.size (Array.getElem?_eq_some_iff.1 (heap_alloc_new w (.cells #[.int .i64 k, .int .i64 a, .int .i64 t, .slice A n c, .int .i64 e, .slice B m d] 55))).1).trans (heap_alloc_new w (.cells #[.int .i64 k, .int .i64 a, .int .i64 t, .slice A n c, .int .i64 e, .slice B m d] 55)))
  have HY := Lib.hid (show ((w.alloc (.cells #[.int .i64 k, .int .i64 a, .int .i64 t, .slice A n c, .int .i64 e, .slice B m d] 55)).alloc (.cells #[.int .i64 k', .int .i64 a', .int .i64 t', .slice A' n' c', .int .i64 e', .slice B' m' d'] 55)).heap[w.heap.size + 1]? = some (.cells #[.int .i64 k', .int .i64 a', .int .i64 t', .slice A' n' c', .int .i64 e', .slice B' m' d'] 55 (0, 0)) from by
    have e := heap_alloc_new (w.alloc (.cells #[.int .i64 k, .int .i64 a, .int .i64 t, .slice A n c, .int .i64 e, .slice B m d] 55)) (.cells #[.int .i64 k', .int .i64 a', .int .i64 t', .slice A' n' c', .int .i64 e', .slice B' m' d'] 55)
    rwa [World.size_alloc] at e)
  have HB := Lib.hid (boxes2 w #[.int .i64 k, .int .i64 a, .int .i64 t, .slice A n c, .int .i64 e, .slice B m d] #[.int .i64 k', .int .i64 a', .int .i64 t', .slice A' n' c', .int .i64 e', .slice B' m' d'] 55)
  generalize (w.alloc (.cells #[.int .i64 k, .int .i64 a, .int .i64 t, .slice A n c, .int .i64 e, .slice B m d] 55)).alloc (.cells #[.int .i64 k', .int .i64 a', .int .i64 t', .slice A' n' c', .int .i64 e', .slice B' m' d'] 55) = W0 at *
  have c0 := Lib.cell_of_heap HX.out 0
  have c1 := Lib.cell_of_heap HX.out 1
  have c2 := Lib.cell_of_heap HX.out 2
  have c3 := Lib.cell_of_heap HX.out 3
  have c4 := Lib.cell_of_heap HX.out 4
  have c5 := Lib.cell_of_heap HX.out 5
  simp only [List.getElem?_toArray, List.getElem?_cons_zero, List.getElem?_cons_succ] at c0 c1 c2 c3 c4 c5
  have d0 := Lib.cell_of_heap HY.out 0
  have d1 := Lib.cell_of_heap HY.out 1
  have d2 := Lib.cell_of_heap HY.out 2
  have d3 := Lib.cell_of_heap HY.out 3
  have d4 := Lib.cell_of_heap HY.out 4
  have d5 := Lib.cell_of_heap HY.out 5
  simp only [List.getElem?_toArray, List.getElem?_cons_zero, List.getElem?_cons_succ] at d0 d1 d2 d3 d4 d5
  by_cases h0 : k = k'
  case neg =>
    have n0 : (k == k') = false := by simpa using h0
    have HV := Lib.hid (show V = false by rw [HE.out, n0]; simp)
    go_wp2_with fail
    go_ret
    exact ⟨by rw [HV.out]; rfl, HB.out⟩
  have p0 : (k == k') = true := by simpa using h0
  rw [p0] at HE
  clear h0
  by_cases h1 : a = a'
  case neg =>
    have n1 : (a == a') = false := by simpa using h1
    have HV := Lib.hid (show V = false by rw [HE.out, n1]; simp)
    go_wp2_with fail
    go_ret
    exact ⟨by rw [HV.out]; rfl, HB.out⟩
  have p1 : (a == a') = true := by simpa using h1
  rw [p1] at HE
  clear h1
  by_cases h2 : t = t'
  case neg =>
    have n2 : (t == t') = false := by simpa using h2
    have HV := Lib.hid (show V = false by rw [HE.out, n2]; simp)
    go_wp2_with fail
    go_ret
    exact ⟨by rw [HV.out]; rfl, HB.out⟩
  have p2 : (t == t') = true := by simpa using h2
  rw [p2] at HE
  clear h2
  go_wp2_with fail
  refine (HC1.out _ HB.out).mono ?_
  rintro r u3 ⟨rfl, hb3⟩
  have HB3 := Lib.hid (bthen HB.out hb3)
  have HX3 := Lib.hid ((hb3.block _ (Array.getElem?_eq_some_iff.1 HX.out).1).trans HX.out)
  have HY3 := Lib.hid ((hb3.block _ (Array.getElem?_eq_some_iff.1 HY.out).1).trans HY.out)
  clear hb3 c0 d0 c1 d1 c2 d2 c3 d3 c4 d4 c5 d5
  obtain ⟨q3, hq3⟩ : ∃ q, decide (l = l') = q := ⟨_, rfl⟩
  rw [hq3] at HE ⊢
  clear hq3
  have c0 := Lib.cell_of_heap HX3.out 0
  have c1 := Lib.cell_of_heap HX3.out 1
  have c2 := Lib.cell_of_heap HX3.out 2
  have c3 := Lib.cell_of_heap HX3.out 3
  have c4 := Lib.cell_of_heap HX3.out 4
  have c5 := Lib.cell_of_heap HX3.out 5
  simp only [List.getElem?_toArray, List.getElem?_cons_zero, List.getElem?_cons_succ] at c0 c1 c2 c3 c4 c5
  have d0 := Lib.cell_of_heap HY3.out 0
  have d1 := Lib.cell_of_heap HY3.out 1
  have d2 := Lib.cell_of_heap HY3.out 2
  have d3 := Lib.cell_of_heap HY3.out 3
  have d4 := Lib.cell_of_heap HY3.out 4
  have d5 := Lib.cell_of_heap HY3.out 5
  simp only [List.getElem?_toArray, List.getElem?_cons_zero, List.getElem?_cons_succ] at d0 d1 d2 d3 d4 d5
  cases q3 with
  | false =>
    have HV := Lib.hid (show V = false by rw [HE.out]; simp)
    go_wp2_with fail
    go_ret
    exact ⟨by rw [HV.out]; rfl, HB3.out⟩
  | true =>
    by_cases h4 : e = e'
    case neg =>
      have n4 : (e == e') = false := by simpa using h4
      have HV := Lib.hid (show V = false by rw [HE.out, n4]; simp)
      go_wp2_with fail
      go_ret
      exact ⟨by rw [HV.out]; rfl, HB3.out⟩
    have p4 : (e == e') = true := by simpa using h4
    rw [p4] at HE
    clear h4
    go_wp2_with fail
    refine (HC2.out _ HB3.out).mono ?_
    rintro r u5 ⟨rfl, hb5⟩
    have HB5 := Lib.hid (bthen HB3.out hb5)
    have HX5 := Lib.hid ((hb5.block _ (Array.getElem?_eq_some_iff.1 HX3.out).1).trans HX3.out)
    have HY5 := Lib.hid ((hb5.block _ (Array.getElem?_eq_some_iff.1 HY3.out).1).trans HY3.out)
    clear hb5 c0 d0 c1 d1 c2 d2 c3 d3 c4 d4 c5 d5
    obtain ⟨q5, hq5⟩ : ∃ q, decide (h = h') = q := ⟨_, rfl⟩
    rw [hq5] at HE ⊢
    clear hq5
    have HV := Lib.hid (show V = q5 by rw [HE.out]; first | rfl | simp)
    go_wp2_with fail
    go_ret
    exact ⟨by rw [HV.out]; rfl, HB5.out⟩
set_option maxRecDepth 100000 in
set_option maxHeartbeats 8000000 in
theorem eqInsts_any (xs ys : List In) (A A' : Option Addr) (n n' c c' : Nat) (w : World) (hn : xs.length = n) (hn' : ys.length = n') (h9 : n ≤ 9223372036854775807) (hok : ∀ x ∈ xs, x.l.length ≤ 9223372036854775807) (hS : Insts w (.slice A n c) xs) (hS' : Insts w (.slice A' n' c') ys) :
    Calls Try.prog 111 #[.slice A n c, .slice A' n' c', .func (.func 107) #[] #[]] w fun e w' => e = .returned (.bool (listB sameI xs ys)) ∧ Below w.heap.size w w' := by
  have HN := Lib.hid (show xs.length ≤ n ∧ n ≤ xs.length by omega)
  have HN' := Lib.hid (show ys.length ≤ n' ∧ n' ≤ ys.length by omega)
  have HS := Lib.hid hS
  have HS' := Lib.hid hS'
  have HOK := Lib.hid hok
  have n1 : (n : Int) ≤ 9223372036854775807 := by omega
  obtain ⟨V, hV⟩ : ∃ V, listB sameI xs ys = V := ⟨_, rfl⟩
  have HE := Lib.hid hV
  rw [hV]
  clear hV hS hS' hn hn' h9 hok
  go_enter Try.func111, Try.ntmps111
  by_cases hl : n = n'
  case neg =>
    have t : ((n : Int) == (n' : Int)) = false := by simp; omega
    have HV := Lib.hid (show V = false by rw [← HE.out]; exact listB_len (by have := HN.out; have := HN'.out; omega))
    go_wp2_with fail
    go_ret
    exact ⟨by rw [HV.out]; rfl, Below.refl _ _⟩
  subst hl
  go_wp2_with fail
  go_loopw [17] (fun iv wr => ∃ i : Nat, i ≤ n ∧ iv = .int .i64 i ∧ ((xs.take i).zip (ys.take i)).all (fun x => sameI x.1 x.2) = true ∧ Below w.heap.size w wr) (fun iv _ => n - (intOf iv).toNat)
  case atStart => exact ⟨0, Nat.zero_le _, rfl, by simp, Below.refl _ _⟩
  case round =>
    obtain ⟨i, hi, rfl, hs, hb⟩ := hrel
    have HT := Lib.hid hs
    have HB := Lib.hid hb
    clear hs
    by_cases hlt : i < n
    · have hm : i < xs.length := by have := HN.out; omega
      have hk : i < ys.length := by have := HN'.out; omega
      obtain ⟨b1, off, hA, hbl, e0⟩ := RowOf.at_ (HS.out.next hb) hm
      obtain ⟨b2, off2, hA2, hbl2, e2⟩ := RowOf.at_ (HS'.out.next hb) hk
      subst hA hA2
      have HNX := Lib.hid (zip_take hm hk HT.out)
      have HNO := Lib.hid (fun h => zip_no (p := sameI) hm hk h)
      have hox := HOK.out _ (List.getElem_mem hm)
      obtain ⟨x, hx⟩ : ∃ x, xs[i] = x := ⟨_, rfl⟩
      obtain ⟨y, hy⟩ : ∃ y, ys[i] = y := ⟨_, rfl⟩
      rw [hx] at e0 HNX HNO hox
      rw [hy] at e2 HNX HNO
      obtain ⟨g0, g1, g2, g3, g4, A5, z5, g5, hi5⟩ := e0
      obtain ⟨k0, k1, k2, k3, k4, A6, z6, k5, hi6⟩ := e2
      have HC := Lib.hid (fun (U : World) (hu : Below wr.heap.size wr U) => sameInst_any x y A5 A6 z5 z6 U (hi5.next hu) (hi6.next hu) hox)
      unfold inV at HC
      obtain ⟨x0, hx0⟩ : ∃ z, x.o = z := ⟨_, rfl⟩
      obtain ⟨x1, hx1⟩ : ∃ z, x.a = z := ⟨_, rfl⟩
      obtain ⟨x2, hx2⟩ : ∃ z, x.b = z := ⟨_, rfl⟩
      obtain ⟨x3, hx3⟩ : ∃ z, x.k = z := ⟨_, rfl⟩
      obtain ⟨x4, hx4⟩ : ∃ z, x.s = z := ⟨_, rfl⟩
      obtain ⟨x5, hx5⟩ : ∃ z, x.l.length = z := ⟨_, rfl⟩
      obtain ⟨y0, hy0⟩ : ∃ z, y.o = z := ⟨_, rfl⟩
      obtain ⟨y1, hy1⟩ : ∃ z, y.a = z := ⟨_, rfl⟩
      obtain ⟨y2, hy2⟩ : ∃ z, y.b = z := ⟨_, rfl⟩
      obtain ⟨y3, hy3⟩ : ∃ z, y.k = z := ⟨_, rfl⟩
      obtain ⟨y4, hy4⟩ : ∃ z, y.s = z := ⟨_, rfl⟩
      obtain ⟨y5, hy5⟩ : ∃ z, y.l.length = z := ⟨_, rfl⟩
      rw [hx0, hx1, hx2, hx3, hx4, hx5, hy0, hy1, hy2, hy3, hy4, hy5] at HC
      rw [hx0] at g0
      rw [hy0] at k0
      rw [hx1] at g1
      rw [hy1] at k1
      rw [hx2] at g2
      rw [hy2] at k2
      rw [hx3] at g3
      rw [hy3] at k3
      rw [hx4] at g4
      rw [hy4] at k4
      rw [hx5] at g5
      rw [hy5] at k5
      clear hi5 hi6 hx0 hx1 hx2 hx3 hx4 hx5 hy0 hy1 hy2 hy3 hy4 hy5
      obtain ⟨X, hX⟩ : ∃ X, sameI x y = X := ⟨_, rfl⟩
      rw [hX] at HC HNX HNO
      have HV0 := Lib.hid (show X = false → V = false from fun h => by rw [← HE.out]; exact HNO.out h)
      have hk0 : (0 : Int) ≤ (i : Int) := Int.natCast_nonneg _
      have hk1 : (i : Int) < (n : Int) := by omega
      have HLT := Lib.hid hlt
      have hbx := balloc (balloc (Below.refl _ wr) (.cells #[.int .i64 x0, .int .i64 x1, .int .i64 x2, .int .u64 x3, .string x4, .slice A5 x5 z5] 60)) (.cells #[.int .i64 y0, .int .i64 y1, .int .i64 y2, .int .u64 y3, .string y4, .slice A6 y5 z6] 60)
      have HBX := Lib.hid hbx
      clear hx hy hm hk hlt hX hbx hox HNO
      go_wp2_with fail
      refine (HC.out _ HBX.out).mono ?_
      rintro r w2 ⟨rfl, hb2⟩
      have HB2 := Lib.hid (bthen HB.out (bthen HBX.out hb2))
      clear hb2 g0 g1 g2 g3 g4 g5 k0 k1 k2 k3 k4 k5
      cases X with
      | false =>
        have HV := Lib.hid (HV0.out rfl)
        go_wp2_with fail
        go_ret
        exact ⟨by rw [HV.out]; rfl, HB2.out⟩
      | true =>
        go_wp2_with fail
        go_roundw
        case rel => exact ⟨i + 1, HLT.out, by go_num, HNX.out, HB2.out⟩
        case measure => have := HLT.out; simp [intOf]; omega
    · have hd : decide ((i : Int) < (n : Int)) = false := by simp; omega
      have HV := Lib.hid (show V = true by
        rw [← HE.out]
        have h := HT.out
        exact zip_all (n := n) (by have := HN.out; omega) (by have := HN'.out; omega) (by rwa [show i = n by omega] at h))
      go_wp2_with fail
      go_ret
      exact ⟨by rw [HV.out]; rfl, HB.out⟩
set_option maxRecDepth 100000 in
set_option maxHeartbeats 8000000 in
theorem sameBlock_any (p k a t e p' k' a' t' e' : Int) (i i' : List In) (l h l' h' : List Int) (A B C A' B' C' : Option Addr) (n c m d r s n' c' m' d' r' s' : Nat) (w : World) (hr : i.length = r) (hr' : i'.length = r') (hr9 : r ≤ 9223372036854775807) (hoi : ∀ x ∈ i, x.l.length ≤ 9223372036854775807) (h9 : n ≤ 9223372036854775807) (h9' : m ≤ 9223372036854775807) (hI : Insts w (.slice C r s) i) (hI' : Insts w (.slice C' r' s') i') (hS : Ints w (.slice A n c) l) (hS' : Ints w (.slice A' n' c') l') (hR : Ints w (.slice B m d) h) (hR' : Ints w (.slice B' m' d') h') :
    Calls Try.prog 86 #[.agg #[.int .i64 p, .slice C r s, .int .i64 k, .int .i64 a, .int .i64 t, .slice A n c, .int .i64 e, .slice B m d], .agg #[.int .i64 p', .slice C' r' s', .int .i64 k', .int .i64 a', .int .i64 t', .slice A' n' c', .int .i64 e', .slice B' m' d']] w fun E w' => E = .returned (.bool (sameB ⟨p, i, ⟨k, a, t, l, e, h⟩⟩ ⟨p', i', ⟨k', a', t', l', e', h'⟩⟩)) ∧ Below w.heap.size w w' := by
  have HC1 := Lib.hid (fun (W : World) (hb : Below w.heap.size w W) => eqInsts_any i i' C C' r r' s s' W hr hr' hr9 hoi (hI.next hb) (hI'.next hb))
  have HC2 := Lib.hid (fun (W : World) (hb : Below w.heap.size w W) => sameEnd_any k a t e k' a' t' e' l h l' h' A B A' B' n c m d n' c' m' d' W h9 h9' (hS.next hb) (hS'.next hb) (hR.next hb) (hR'.next hb))
  clear hI hI' hS hS' hR hR' h9 h9' hr hr' hr9 hoi
  obtain ⟨V, hV⟩ : ∃ V, sameB ⟨p, i, ⟨k, a, t, l, e, h⟩⟩ ⟨p', i', ⟨k', a', t', l', e', h'⟩⟩ = V := ⟨_, rfl⟩
  have HE := Lib.hid (show V = ((p == p') && listB sameI i i' && sameT ⟨k, a, t, l, e, h⟩ ⟨k', a', t', l', e', h'⟩) from hV.symm)
  rw [hV]
  clear hV
  go_enter Try.func86, Try.ntmps86
  go_upto_region 1 with fail
  have HX := Lib.hid (show ((w.alloc (.cells #[.int .i64 p, .slice C r s, .int .i64 k, .int .i64 a, .int .i64 t, .slice A n c, .int .i64 e, .slice B m d] 58)).alloc (.cells #[.int .i64 p', .slice C' r' s', .int .i64 k', .int .i64 a', .int .i64 t', .slice A' n' c', .int .i64 e', .slice B' m' d'] 58)).heap[w.heap.size]? = some (.cells #[.int .i64 p, .slice C r s, .int .i64 k, .int .i64 a, .int .i64 t, .slice A n c, .int .i64 e, .slice B m d] 58 (0, 0)) from ((balloc (Below.refl _ _) (.cells #[.int .i64 p', .slice C' r' s', .int .i64 k', .int .i64 a', .int .i64 t', .slice A' n' c', .int .i64 e', .slice B' m' d'] 58)).block w.heap.size (Array.getElem?_eq_some_iff.1 (heap_alloc_new w (.cells #[.int .i64 p, .slice C r s, .int .i64 k, .int .i64 a, .int .i64 t, .slice A n c, .int .i64 e, .slice B m d] 58))).1).trans (heap_alloc_new w (.cells #[.int .i64 p, .slice C r s, .int .i64 k, .int .i64 a, .int .i64 t, .slice A n c, .int .i64 e, .slice B m d] 58)))
  have HY := Lib.hid (show ((w.alloc (.cells #[.int .i64 p, .slice C r s, .int .i64 k, .int .i64 a, .int .i64 t, .slice A n c, .int .i64 e, .slice B m d] 58)).alloc (.cells #[.int .i64 p', .slice C' r' s', .int .i64 k', .int .i64 a', .int .i64 t', .slice A' n' c', .int .i64 e', .slice B' m' d'] 58)).heap[w.heap.size + 1]? = some (.cells #[.int .i64 p', .slice C' r' s', .int .i64 k', .int .i64 a', .int .i64 t', .slice A' n' c', .int .i64 e', .slice B' m' d'] 58 (0, 0)) from by
    have e := heap_alloc_new (w.alloc (.cells #[.int .i64 p, .slice C r s, .int .i64 k, .int .i64 a, .int .i64 t, .slice A n c, .int .i64 e, .slice B m d] 58)) (.cells #[.int .i64 p', .slice C' r' s', .int .i64 k', .int .i64 a', .int .i64 t', .slice A' n' c', .int .i64 e', .slice B' m' d'] 58)
    rwa [World.size_alloc] at e)
  have HB := Lib.hid (boxes2 w #[.int .i64 p, .slice C r s, .int .i64 k, .int .i64 a, .int .i64 t, .slice A n c, .int .i64 e, .slice B m d] #[.int .i64 p', .slice C' r' s', .int .i64 k', .int .i64 a', .int .i64 t', .slice A' n' c', .int .i64 e', .slice B' m' d'] 58)
  generalize (w.alloc (.cells #[.int .i64 p, .slice C r s, .int .i64 k, .int .i64 a, .int .i64 t, .slice A n c, .int .i64 e, .slice B m d] 58)).alloc (.cells #[.int .i64 p', .slice C' r' s', .int .i64 k', .int .i64 a', .int .i64 t', .slice A' n' c', .int .i64 e', .slice B' m' d'] 58) = W0 at *
  have c0 := Lib.cell_of_heap HX.out 0
  have c1 := Lib.cell_of_heap HX.out 1
  have c2 := Lib.cell_of_heap HX.out 2
  have c3 := Lib.cell_of_heap HX.out 3
  have c4 := Lib.cell_of_heap HX.out 4
  have c5 := Lib.cell_of_heap HX.out 5
  have c6 := Lib.cell_of_heap HX.out 6
  have c7 := Lib.cell_of_heap HX.out 7
  simp only [List.getElem?_toArray, List.getElem?_cons_zero, List.getElem?_cons_succ] at c0 c1 c2 c3 c4 c5 c6 c7
  have d0 := Lib.cell_of_heap HY.out 0
  have d1 := Lib.cell_of_heap HY.out 1
  have d2 := Lib.cell_of_heap HY.out 2
  have d3 := Lib.cell_of_heap HY.out 3
  have d4 := Lib.cell_of_heap HY.out 4
  have d5 := Lib.cell_of_heap HY.out 5
  have d6 := Lib.cell_of_heap HY.out 6
  have d7 := Lib.cell_of_heap HY.out 7
  simp only [List.getElem?_toArray, List.getElem?_cons_zero, List.getElem?_cons_succ] at d0 d1 d2 d3 d4 d5 d6 d7
  by_cases h0 : p = p'
  case neg =>
    have n0 : (p == p') = false := by simpa using h0
    have HV := Lib.hid (show V = false by rw [HE.out, n0]; simp)
    go_wp2_with fail
    go_ret
    exact ⟨by rw [HV.out]; rfl, HB.out⟩
  have p0 : (p == p') = true := by simpa using h0
  rw [p0] at HE
  clear h0
  go_wp2_with fail
  refine (HC1.out _ HB.out).mono ?_
  rintro r u1 ⟨rfl, hb1⟩
  have HB1 := Lib.hid (bthen HB.out hb1)
  have HX1 := Lib.hid ((hb1.block _ (Array.getElem?_eq_some_iff.1 HX.out).1).trans HX.out)
  have HY1 := Lib.hid ((hb1.block _ (Array.getElem?_eq_some_iff.1 HY.out).1).trans HY.out)
  clear hb1 c0 d0 c1 d1 c2 d2 c3 d3 c4 d4 c5 d5 c6 d6 c7 d7
  obtain ⟨q1, hq1⟩ : ∃ q, listB sameI i i' = q := ⟨_, rfl⟩
  rw [hq1] at HE ⊢
  clear hq1
  have c0 := Lib.cell_of_heap HX1.out 0
  have c1 := Lib.cell_of_heap HX1.out 1
  have c2 := Lib.cell_of_heap HX1.out 2
  have c3 := Lib.cell_of_heap HX1.out 3
  have c4 := Lib.cell_of_heap HX1.out 4
  have c5 := Lib.cell_of_heap HX1.out 5
  have c6 := Lib.cell_of_heap HX1.out 6
  have c7 := Lib.cell_of_heap HX1.out 7
  simp only [List.getElem?_toArray, List.getElem?_cons_zero, List.getElem?_cons_succ] at c0 c1 c2 c3 c4 c5 c6 c7
  have d0 := Lib.cell_of_heap HY1.out 0
  have d1 := Lib.cell_of_heap HY1.out 1
  have d2 := Lib.cell_of_heap HY1.out 2
  have d3 := Lib.cell_of_heap HY1.out 3
  have d4 := Lib.cell_of_heap HY1.out 4
  have d5 := Lib.cell_of_heap HY1.out 5
  have d6 := Lib.cell_of_heap HY1.out 6
  have d7 := Lib.cell_of_heap HY1.out 7
  simp only [List.getElem?_toArray, List.getElem?_cons_zero, List.getElem?_cons_succ] at d0 d1 d2 d3 d4 d5 d6 d7
  cases q1 with
  | false =>
    have HV := Lib.hid (show V = false by rw [HE.out]; simp)
    go_wp2_with fail
    go_ret
    exact ⟨by rw [HV.out]; rfl, HB1.out⟩
  | true =>
    go_wp2_with fail
    refine (HC2.out _ HB1.out).mono ?_
    rintro r u2 ⟨rfl, hb2⟩
    have HB2 := Lib.hid (bthen HB1.out hb2)
    have HX2 := Lib.hid ((hb2.block _ (Array.getElem?_eq_some_iff.1 HX1.out).1).trans HX1.out)
    have HY2 := Lib.hid ((hb2.block _ (Array.getElem?_eq_some_iff.1 HY1.out).1).trans HY1.out)
    clear hb2 c0 d0 c1 d1 c2 d2 c3 d3 c4 d4 c5 d5 c6 d6 c7 d7
    obtain ⟨q2, hq2⟩ : ∃ q, sameT ⟨k, a, t, l, e, h⟩ ⟨k', a', t', l', e', h'⟩ = q := ⟨_, rfl⟩
    rw [hq2] at HE ⊢
    clear hq2
    have HV := Lib.hid (show V = q2 by rw [HE.out]; first | rfl | simp)
    go_wp2_with fail
    go_ret
    exact ⟨by rw [HV.out]; rfl, HB2.out⟩
set_option maxRecDepth 100000 in
set_option maxHeartbeats 8000000 in
theorem eqBlocks_any (xs ys : List Bk) (A A' : Option Addr) (n n' c c' : Nat) (w : World) (hn : xs.length = n) (hn' : ys.length = n') (h9 : n ≤ 9223372036854775807) (hok : ∀ x ∈ xs, BkOk x) (hS : Blocks w (.slice A n c) xs) (hS' : Blocks w (.slice A' n' c') ys) :
    Calls Try.prog 85 #[.slice A n c, .slice A' n' c', .func (.func 86) #[] #[]] w fun e w' => e = .returned (.bool (listB sameB xs ys)) ∧ Below w.heap.size w w' := by
  have HN := Lib.hid (show xs.length ≤ n ∧ n ≤ xs.length by omega)
  have HN' := Lib.hid (show ys.length ≤ n' ∧ n' ≤ ys.length by omega)
  have HS := Lib.hid hS
  have HS' := Lib.hid hS'
  have HOK := Lib.hid hok
  have n1 : (n : Int) ≤ 9223372036854775807 := by omega
  obtain ⟨V, hV⟩ : ∃ V, listB sameB xs ys = V := ⟨_, rfl⟩
  have HE := Lib.hid hV
  rw [hV]
  clear hV hS hS' hn hn' h9 hok
  go_enter Try.func85, Try.ntmps85
  by_cases hl : n = n'
  case neg =>
    have t : ((n : Int) == (n' : Int)) = false := by simp; omega
    have HV := Lib.hid (show V = false by rw [← HE.out]; exact listB_len (by have := HN.out; have := HN'.out; omega))
    go_wp2_with fail
    go_ret
    exact ⟨by rw [HV.out]; rfl, Below.refl _ _⟩
  subst hl
  go_wp2_with fail
  go_loopw [17] (fun iv wr => ∃ i : Nat, i ≤ n ∧ iv = .int .i64 i ∧ ((xs.take i).zip (ys.take i)).all (fun x => sameB x.1 x.2) = true ∧ Below w.heap.size w wr) (fun iv _ => n - (intOf iv).toNat)
  case atStart => exact ⟨0, Nat.zero_le _, rfl, by simp, Below.refl _ _⟩
  case round =>
    obtain ⟨i, hi, rfl, hs, hb⟩ := hrel
    have HT := Lib.hid hs
    have HB := Lib.hid hb
    clear hs
    by_cases hlt : i < n
    · have hm : i < xs.length := by have := HN.out; omega
      have hk : i < ys.length := by have := HN'.out; omega
      obtain ⟨b1, off, hA, hbl, e0⟩ := RowOf.at_ (HS.out.next hb) hm
      obtain ⟨b2, off2, hA2, hbl2, e2⟩ := RowOf.at_ (HS'.out.next hb) hk
      subst hA hA2
      have HNX := Lib.hid (zip_take hm hk HT.out)
      have HNO := Lib.hid (fun h => zip_no (p := sameB) hm hk h)
      have hox := HOK.out _ (List.getElem_mem hm)
      obtain ⟨x, hx⟩ : ∃ x, xs[i] = x := ⟨_, rfl⟩
      obtain ⟨y, hy⟩ : ∃ y, ys[i] = y := ⟨_, rfl⟩
      rw [hx] at e0 HNX HNO hox
      rw [hy] at e2 HNX HNO
      obtain ⟨g0, ⟨A1, z1, g1, hi1⟩, g2, g3, g4, ⟨A5, z5, g5, hi5⟩, g6, A7, z7, g7, hi7⟩ := e0
      obtain ⟨k0, ⟨B1, v1, k1, hj1⟩, k2, k3, k4, ⟨B5, v5, k5, hj5⟩, k6, B7, v7, k7, hj7⟩ := e2
      have HC := Lib.hid (fun (U : World) (hu : Below wr.heap.size wr U) => sameBlock_any x.p x.e.k x.e.a x.e.t x.e.e y.p y.e.k y.e.a y.e.t y.e.e x.i y.i x.e.l x.e.m y.e.l y.e.m A5 A7 A1 B5 B7 B1 _ z5 _ z7 _ z1 _ v5 _ v7 _ v1 U rfl rfl hox.1 (fun i hi => (hox.2.2.2 i hi).2) hox.2.1 hox.2.2.1 (hi1.next hu) (hj1.next hu) (hi5.next hu) (hj5.next hu) (hi7.next hu) (hj7.next hu))
      rw [show sameB ⟨x.p, x.i, ⟨x.e.k, x.e.a, x.e.t, x.e.l, x.e.e, x.e.m⟩⟩ ⟨y.p, y.i, ⟨y.e.k, y.e.a, y.e.t, y.e.l, y.e.e, y.e.m⟩⟩ = sameB x y from rfl] at HC
      obtain ⟨x0, hx0⟩ : ∃ z, x.p = z := ⟨_, rfl⟩
      obtain ⟨x1, hx1⟩ : ∃ z, x.i.length = z := ⟨_, rfl⟩
      obtain ⟨x2, hx2⟩ : ∃ z, x.e.k = z := ⟨_, rfl⟩
      obtain ⟨x3, hx3⟩ : ∃ z, x.e.a = z := ⟨_, rfl⟩
      obtain ⟨x4, hx4⟩ : ∃ z, x.e.t = z := ⟨_, rfl⟩
      obtain ⟨x5, hx5⟩ : ∃ z, x.e.l.length = z := ⟨_, rfl⟩
      obtain ⟨x6, hx6⟩ : ∃ z, x.e.e = z := ⟨_, rfl⟩
      obtain ⟨x7, hx7⟩ : ∃ z, x.e.m.length = z := ⟨_, rfl⟩
      obtain ⟨y0, hy0⟩ : ∃ z, y.p = z := ⟨_, rfl⟩
      obtain ⟨y1, hy1⟩ : ∃ z, y.i.length = z := ⟨_, rfl⟩
      obtain ⟨y2, hy2⟩ : ∃ z, y.e.k = z := ⟨_, rfl⟩
      obtain ⟨y3, hy3⟩ : ∃ z, y.e.a = z := ⟨_, rfl⟩
      obtain ⟨y4, hy4⟩ : ∃ z, y.e.t = z := ⟨_, rfl⟩
      obtain ⟨y5, hy5⟩ : ∃ z, y.e.l.length = z := ⟨_, rfl⟩
      obtain ⟨y6, hy6⟩ : ∃ z, y.e.e = z := ⟨_, rfl⟩
      obtain ⟨y7, hy7⟩ : ∃ z, y.e.m.length = z := ⟨_, rfl⟩
      rw [hx0, hx1, hx2, hx3, hx4, hx5, hx6, hx7, hy0, hy1, hy2, hy3, hy4, hy5, hy6, hy7] at HC
      rw [hx0] at g0
      rw [hy0] at k0
      rw [hx1] at g1
      rw [hy1] at k1
      rw [hx2] at g2
      rw [hy2] at k2
      rw [hx3] at g3
      rw [hy3] at k3
      rw [hx4] at g4
      rw [hy4] at k4
      rw [hx5] at g5
      rw [hy5] at k5
      rw [hx6] at g6
      rw [hy6] at k6
      rw [hx7] at g7
      rw [hy7] at k7
      clear hi1 hi5 hi7 hj1 hj5 hj7 hx0 hx1 hx2 hx3 hx4 hx5 hx6 hx7 hy0 hy1 hy2 hy3 hy4 hy5 hy6 hy7
      obtain ⟨X, hX⟩ : ∃ X, sameB x y = X := ⟨_, rfl⟩
      rw [hX] at HC HNX HNO
      have HV0 := Lib.hid (show X = false → V = false from fun h => by rw [← HE.out]; exact HNO.out h)
      have hk0 : (0 : Int) ≤ (i : Int) := Int.natCast_nonneg _
      have hk1 : (i : Int) < (n : Int) := by omega
      have HLT := Lib.hid hlt
      have hbx := balloc (balloc (Below.refl _ wr) (.cells #[.int .i64 x0, .slice A1 x1 z1, .int .i64 x2, .int .i64 x3, .int .i64 x4, .slice A5 x5 z5, .int .i64 x6, .slice A7 x7 z7] 58)) (.cells #[.int .i64 y0, .slice B1 y1 v1, .int .i64 y2, .int .i64 y3, .int .i64 y4, .slice B5 y5 v5, .int .i64 y6, .slice B7 y7 v7] 58)
      have HBX := Lib.hid hbx
      clear hx hy hm hk hlt hX hbx hox HNO
      go_wp2_with fail
      refine (HC.out _ HBX.out).mono ?_
      rintro r w2 ⟨rfl, hb2⟩
      have HB2 := Lib.hid (bthen HB.out (bthen HBX.out hb2))
      clear hb2 g0 g1 g2 g3 g4 g5 g6 g7 k0 k1 k2 k3 k4 k5 k6 k7
      cases X with
      | false =>
        have HV := Lib.hid (HV0.out rfl)
        go_wp2_with fail
        go_ret
        exact ⟨by rw [HV.out]; rfl, HB2.out⟩
      | true =>
        go_wp2_with fail
        go_roundw
        case rel => exact ⟨i + 1, HLT.out, by go_num, HNX.out, HB2.out⟩
        case measure => have := HLT.out; simp [intOf]; omega
    · have hd : decide ((i : Int) < (n : Int)) = false := by simp; omega
      have HV := Lib.hid (show V = true by
        rw [← HE.out]
        have h := HT.out
        exact zip_all (n := n) (by have := HN.out; omega) (by have := HN'.out; omega) (by rwa [show i = n by omega] at h))
      go_wp2_with fail
      go_ret
      exact ⟨by rw [HV.out]; rfl, HB.out⟩
set_option maxRecDepth 100000 in
set_option maxHeartbeats 8000000 in
theorem sameFunc_any (s s' : ByteArray) (b p b' p' : Int) (l l' : List Bk) (A A' : Option Addr) (n c n' c' : Nat) (w : World) (hn : l.length = n) (hn' : l'.length = n') (h9 : n ≤ 9223372036854775807) (hok : ∀ x ∈ l, BkOk x) (hS : Blocks w (.slice A n c) l) (hS' : Blocks w (.slice A' n' c') l') :
    Calls Try.prog 60 #[.agg #[.string s, .int .i64 b, .int .i64 p, .slice A n c], .agg #[.string s', .int .i64 b', .int .i64 p', .slice A' n' c']] w fun E w' => E = .returned (.bool (sameF ⟨s, b, p, l⟩ ⟨s', b', p', l'⟩)) ∧ Below w.heap.size w w' := by
  have HC1 := Lib.hid (fun (W : World) (hb : Below w.heap.size w W) => eqBlocks_any l l' A A' n n' c c' W hn hn' h9 hok (hS.next hb) (hS'.next hb))
  clear hS hS' hn hn' h9 hok
  obtain ⟨V, hV⟩ : ∃ V, sameF ⟨s, b, p, l⟩ ⟨s', b', p', l'⟩ = V := ⟨_, rfl⟩
  have HE := Lib.hid (show V = ((s == s') && (b == b') && (p == p') && listB sameB l l') from hV.symm)
  rw [hV]
  clear hV
  go_enter Try.func60, Try.ntmps60
  go_upto_region 1 with fail
  have HX := Lib.hid (show ((w.alloc (.cells #[.string s, .int .i64 b, .int .i64 p, .slice A n c] 24)).alloc (.cells #[.string s', .int .i64 b', .int .i64 p', .slice A' n' c'] 24)).heap[w.heap.size]? = some (.cells #[.string s, .int .i64 b, .int .i64 p, .slice A n c] 24 (0, 0)) from ((balloc (Below.refl _ _) (.cells #[.string s', .int .i64 b', .int .i64 p', .slice A' n' c'] 24)).block w.heap.size (Array.getElem?_eq_some_iff.1 (heap_alloc_new w (.cells #[.string s, .int .i64 b, .int .i64 p, .slice A n c] 24))).1).trans (heap_alloc_new w (.cells #[.string s, .int .i64 b, .int .i64 p, .slice A n c] 24)))
  have HY := Lib.hid (show ((w.alloc (.cells #[.string s, .int .i64 b, .int .i64 p, .slice A n c] 24)).alloc (.cells #[.string s', .int .i64 b', .int .i64 p', .slice A' n' c'] 24)).heap[w.heap.size + 1]? = some (.cells #[.string s', .int .i64 b', .int .i64 p', .slice A' n' c'] 24 (0, 0)) from by
    have e := heap_alloc_new (w.alloc (.cells #[.string s, .int .i64 b, .int .i64 p, .slice A n c] 24)) (.cells #[.string s', .int .i64 b', .int .i64 p', .slice A' n' c'] 24)
    rwa [World.size_alloc] at e)
  have HB := Lib.hid (boxes2 w #[.string s, .int .i64 b, .int .i64 p, .slice A n c] #[.string s', .int .i64 b', .int .i64 p', .slice A' n' c'] 24)
  generalize (w.alloc (.cells #[.string s, .int .i64 b, .int .i64 p, .slice A n c] 24)).alloc (.cells #[.string s', .int .i64 b', .int .i64 p', .slice A' n' c'] 24) = W0 at *
  have c0 := Lib.cell_of_heap HX.out 0
  have c1 := Lib.cell_of_heap HX.out 1
  have c2 := Lib.cell_of_heap HX.out 2
  have c3 := Lib.cell_of_heap HX.out 3
  simp only [List.getElem?_toArray, List.getElem?_cons_zero, List.getElem?_cons_succ] at c0 c1 c2 c3
  have d0 := Lib.cell_of_heap HY.out 0
  have d1 := Lib.cell_of_heap HY.out 1
  have d2 := Lib.cell_of_heap HY.out 2
  have d3 := Lib.cell_of_heap HY.out 3
  simp only [List.getElem?_toArray, List.getElem?_cons_zero, List.getElem?_cons_succ] at d0 d1 d2 d3
  cases h0 : s == s' with
  | false =>
    have n0 : (s.toList == s'.toList) = false := by rw [← beq_toListBytes]; exact h0
    have HV := Lib.hid (show V = false by rw [HE.out, h0]; simp)
    go_wp2_with fail
    go_ret
    exact ⟨by rw [HV.out]; rfl, HB.out⟩
  | true =>
    have n0 : (s.toList == s'.toList) = true := by rw [← beq_toListBytes]; exact h0
    rw [h0] at HE
    clear h0
    by_cases h1 : b = b'
    case neg =>
      have n1 : (b == b') = false := by simpa using h1
      have HV := Lib.hid (show V = false by rw [HE.out, n1]; simp)
      go_wp2_with fail
      go_ret
      exact ⟨by rw [HV.out]; rfl, HB.out⟩
    have p1 : (b == b') = true := by simpa using h1
    rw [p1] at HE
    clear h1
    by_cases h2 : p = p'
    case neg =>
      have n2 : (p == p') = false := by simpa using h2
      have HV := Lib.hid (show V = false by rw [HE.out, n2]; simp)
      go_wp2_with fail
      go_ret
      exact ⟨by rw [HV.out]; rfl, HB.out⟩
    have p2 : (p == p') = true := by simpa using h2
    rw [p2] at HE
    clear h2
    go_wp2_with fail
    refine (HC1.out _ HB.out).mono ?_
    rintro r u3 ⟨rfl, hb3⟩
    have HB3 := Lib.hid (bthen HB.out hb3)
    have HX3 := Lib.hid ((hb3.block _ (Array.getElem?_eq_some_iff.1 HX.out).1).trans HX.out)
    have HY3 := Lib.hid ((hb3.block _ (Array.getElem?_eq_some_iff.1 HY.out).1).trans HY.out)
    clear hb3 c0 d0 c1 d1 c2 d2 c3 d3
    obtain ⟨q3, hq3⟩ : ∃ q, listB sameB l l' = q := ⟨_, rfl⟩
    rw [hq3] at HE ⊢
    clear hq3
    have HV := Lib.hid (show V = q3 by rw [HE.out]; first | rfl | simp)
    go_wp2_with fail
    go_ret
    exact ⟨by rw [HV.out]; rfl, HB3.out⟩
set_option maxRecDepth 100000 in
set_option maxHeartbeats 8000000 in
theorem eqFuncs_any (xs ys : List Fn) (A A' : Option Addr) (n n' c c' : Nat) (w : World) (hn : xs.length = n) (hn' : ys.length = n') (h9 : n ≤ 9223372036854775807) (hok : ∀ x ∈ xs, FnOk x) (hS : Funcs w (.slice A n c) xs) (hS' : Funcs w (.slice A' n' c') ys) :
    Calls Try.prog 59 #[.slice A n c, .slice A' n' c', .func (.func 60) #[] #[]] w fun e w' => e = .returned (.bool (listB sameF xs ys)) ∧ Below w.heap.size w w' := by
  have HN := Lib.hid (show xs.length ≤ n ∧ n ≤ xs.length by omega)
  have HN' := Lib.hid (show ys.length ≤ n' ∧ n' ≤ ys.length by omega)
  have HS := Lib.hid hS
  have HS' := Lib.hid hS'
  have HOK := Lib.hid hok
  have n1 : (n : Int) ≤ 9223372036854775807 := by omega
  obtain ⟨V, hV⟩ : ∃ V, listB sameF xs ys = V := ⟨_, rfl⟩
  have HE := Lib.hid hV
  rw [hV]
  clear hV hS hS' hn hn' h9 hok
  go_enter Try.func59, Try.ntmps59
  by_cases hl : n = n'
  case neg =>
    have t : ((n : Int) == (n' : Int)) = false := by simp; omega
    have HV := Lib.hid (show V = false by rw [← HE.out]; exact listB_len (by have := HN.out; have := HN'.out; omega))
    go_wp2_with fail
    go_ret
    exact ⟨by rw [HV.out]; rfl, Below.refl _ _⟩
  subst hl
  go_wp2_with fail
  go_loopw [17] (fun iv wr => ∃ i : Nat, i ≤ n ∧ iv = .int .i64 i ∧ ((xs.take i).zip (ys.take i)).all (fun x => sameF x.1 x.2) = true ∧ Below w.heap.size w wr) (fun iv _ => n - (intOf iv).toNat)
  case atStart => exact ⟨0, Nat.zero_le _, rfl, by simp, Below.refl _ _⟩
  case round =>
    obtain ⟨i, hi, rfl, hs, hb⟩ := hrel
    have HT := Lib.hid hs
    have HB := Lib.hid hb
    clear hs
    by_cases hlt : i < n
    · have hm : i < xs.length := by have := HN.out; omega
      have hk : i < ys.length := by have := HN'.out; omega
      obtain ⟨b1, off, hA, hbl, e0⟩ := RowOf.at_ (HS.out.next hb) hm
      obtain ⟨b2, off2, hA2, hbl2, e2⟩ := RowOf.at_ (HS'.out.next hb) hk
      subst hA hA2
      have HNX := Lib.hid (zip_take hm hk HT.out)
      have HNO := Lib.hid (fun h => zip_no (p := sameF) hm hk h)
      have hox := HOK.out _ (List.getElem_mem hm)
      obtain ⟨x, hx⟩ : ∃ x, xs[i] = x := ⟨_, rfl⟩
      obtain ⟨y, hy⟩ : ∃ y, ys[i] = y := ⟨_, rfl⟩
      rw [hx] at e0 HNX HNO hox
      rw [hy] at e2 HNX HNO
      obtain ⟨g0, g1, g2, A3, z3, g3, hi3⟩ := e0
      obtain ⟨k0, k1, k2, B3, v3, k3, hj3⟩ := e2
      have HC := Lib.hid (fun (U : World) (hu : Below wr.heap.size wr U) => sameFunc_any x.s y.s x.b x.p y.b y.p x.l y.l A3 B3 _ z3 _ v3 U rfl rfl hox.2.1 hox.2.2 (hi3.next hu) (hj3.next hu))
      rw [show sameF ⟨x.s, x.b, x.p, x.l⟩ ⟨y.s, y.b, y.p, y.l⟩ = sameF x y from rfl] at HC
      obtain ⟨x0, hx0⟩ : ∃ z, x.s = z := ⟨_, rfl⟩
      obtain ⟨x1, hx1⟩ : ∃ z, x.b = z := ⟨_, rfl⟩
      obtain ⟨x2, hx2⟩ : ∃ z, x.p = z := ⟨_, rfl⟩
      obtain ⟨x3, hx3⟩ : ∃ z, x.l.length = z := ⟨_, rfl⟩
      obtain ⟨y0, hy0⟩ : ∃ z, y.s = z := ⟨_, rfl⟩
      obtain ⟨y1, hy1⟩ : ∃ z, y.b = z := ⟨_, rfl⟩
      obtain ⟨y2, hy2⟩ : ∃ z, y.p = z := ⟨_, rfl⟩
      obtain ⟨y3, hy3⟩ : ∃ z, y.l.length = z := ⟨_, rfl⟩
      rw [hx0, hx1, hx2, hx3, hy0, hy1, hy2, hy3] at HC
      rw [hx0] at g0
      rw [hy0] at k0
      rw [hx1] at g1
      rw [hy1] at k1
      rw [hx2] at g2
      rw [hy2] at k2
      rw [hx3] at g3
      rw [hy3] at k3
      clear hi3 hj3 hx0 hx1 hx2 hx3 hy0 hy1 hy2 hy3
      obtain ⟨X, hX⟩ : ∃ X, sameF x y = X := ⟨_, rfl⟩
      rw [hX] at HC HNX HNO
      have HV0 := Lib.hid (show X = false → V = false from fun h => by rw [← HE.out]; exact HNO.out h)
      have hk0 : (0 : Int) ≤ (i : Int) := Int.natCast_nonneg _
      have hk1 : (i : Int) < (n : Int) := by omega
      have HLT := Lib.hid hlt
      have hbx := balloc (balloc (Below.refl _ wr) (.cells #[.string x0, .int .i64 x1, .int .i64 x2, .slice A3 x3 z3] 24)) (.cells #[.string y0, .int .i64 y1, .int .i64 y2, .slice B3 y3 v3] 24)
      have HBX := Lib.hid hbx
      clear hx hy hm hk hlt hX hbx hox HNO
      go_wp2_with fail
      refine (HC.out _ HBX.out).mono ?_
      rintro r w2 ⟨rfl, hb2⟩
      have HB2 := Lib.hid (bthen HB.out (bthen HBX.out hb2))
      clear hb2 g0 g1 g2 g3 k0 k1 k2 k3
      cases X with
      | false =>
        have HV := Lib.hid (HV0.out rfl)
        go_wp2_with fail
        go_ret
        exact ⟨by rw [HV.out]; rfl, HB2.out⟩
      | true =>
        go_wp2_with fail
        go_roundw
        case rel => exact ⟨i + 1, HLT.out, by go_num, HNX.out, HB2.out⟩
        case measure => have := HLT.out; simp [intOf]; omega
    · have hd : decide ((i : Int) < (n : Int)) = false := by simp; omega
      have HV := Lib.hid (show V = true by
        rw [← HE.out]
        have h := HT.out
        exact zip_all (n := n) (by have := HN.out; omega) (by have := HN'.out; omega) (by rwa [show i = n by omega] at h))
      go_wp2_with fail
      go_ret
      exact ⟨by rw [HV.out]; rfl, HB.out⟩
end Go.Proofs.Ytkalgiaapkjplaa
