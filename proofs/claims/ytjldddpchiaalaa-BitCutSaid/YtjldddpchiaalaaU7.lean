/- Package bit: ends laid by a writer. -/
import Derived.Test.YtjldddpchiaalaaU5
namespace Go.Proofs.Ytjldddpchiaalaa
open Go.RowKit
namespace Q

theorem inT_len {o : Int} {i : In} (h : InN i) : (inT o i.a i.b i.k i.s i.l).length ≤ 100 := by
  obtain ⟨h1, h2, h3, h4, h5, h6, h7⟩ := h
  have a1 := nL_len h2
  have a2 := nL_len h3
  have a3 : (nL i.k).length ≤ 10 := numL_ten (by have := h4.2; have := h4.1; omega)
  have a4 := valsL_len h7
  have a5 := numL_ten (v := i.l.length) (by omega)
  have a6 := numL_ten (v := i.s.size) (by omega)
  have a7 := size_data i.s
  unfold inT txL
  split
  · omega
  · split
    · rw [List.length_append]; omega
    · split
      · rw [List.length_append]; omega
      · split
        · simp only [List.length_append]; omega
        · split
          · simp only [List.length_append]; omega
          · split
            · omega
            · simp
theorem inL_len {i : In} (h : InN i) : (inL i).length ≤ 150 := by
  have h1 := inT_len (o := i.o) h
  have h2 := nL_len h.1
  unfold inL
  rw [List.length_append]
  omega
theorem tmL_len {t : Tm} (h : TmN t) : (tmL t).length ≤ 250 := by
  obtain ⟨h1, h2, h3, ⟨h4, h5⟩, h6, h7, h8⟩ := h
  have a1 := nL_len h1
  have a2 := nL_len h2
  have a3 := nL_len h3
  have a4 := nL_len h6
  have a5 := valsL_len h5
  have a6 := valsL_len h8
  have a7 := numL_ten (v := t.l.length) (by omega)
  have a8 := numL_ten (v := t.m.length) (by omega)
  unfold tmL tmT
  rw [List.length_append]
  split
  · rw [List.length_append]; omega
  · split
    · simp only [List.length_append]; omega
    · split
      · omega
      · simp; omega
set_option maxRecDepth 100000 in
set_option maxHeartbeats 4000000 in
theorem end_put_1 {w0 : World} {B b : Nat} {l : List UInt8} {a x y : Nat} {xs ys : List Int} {A A' : Option Addr} {n c n' c' : Nat} {W : World} (hB : w0.heap.size = B) (h : Lies B b W l W) (hw : Below B w0 W) (hn : xs.length = n) (h9 : n ≤ 6) (hS : Ints w0 (.slice A n c) xs) (hn' : ys.length = n') (h9' : n' ≤ 6) (hS' : Ints w0 (.slice A' n' c') ys)
    (ha : a ≤ 4294967295) (hx : x ≤ 4294967295) (hy : y ≤ 4294967295) (hxs : ∀ v ∈ xs, NN v) (hys : ∀ v ∈ ys, NN v) (hl : l.length ≤ 98000000) :
    Calls Try.prog 56 #[.pointer (some ⟨b, 0, none⟩), .agg #[.int .i64 1, .int .i64 a, .int .i64 x, .slice A n c, .int .i64 y, .slice A' n' c']] W fun e w' => e = .returned (.tuple #[]) ∧ Lies B b W (l ++ tmL ⟨1, a, x, xs, y, ys⟩) w' := by
  have HALL := And.intro hB (And.intro hw (And.intro hn (And.intro h9 (And.intro hS (And.intro hn' (And.intro h9' (And.intro hS' (And.intro ha (And.intro hx (And.intro hy (And.intro hxs hys)))))))))))
  clear HALL
  obtain ⟨ob, hob⟩ : ∃ o, Obj.cells #[.int .i64 1, .int .i64 a, .int .i64 x, .slice A n c, .int .i64 y, .slice A' n' c'] 72 (0, 0) = o := ⟨_, rfl⟩
  have hq : W.heap.size ≠ b := box_lt h
  have hA := h.alloc ob
  have HQ := Lib.hid hq
  have HBX := Lib.hid (show (W.alloc ob).heap[W.heap.size]? = some (.cells #[.int .i64 1, .int .i64 a, .int .i64 x, .slice A n c, .int .i64 y, .slice A' n' c'] 72 (0, 0)) by rw [heap_alloc_new, hob])
  have n1 : (nL 1).length ≤ 10 := numL_ten (by decide)
  have HC := Lib.hid (one_putz 1 hA.start (by omega) (by omega) (by omega))
  rw [World.size_alloc] at HC
  have HA := Lib.hid hA
  have wa : IntKind.u64.wrap (a : Int) = (a : Int) := IntWalk.u64_in _ (by omega)
  have wx : IntKind.u64.wrap (x : Int) = (x : Int) := IntWalk.u64_in _ (by omega)
  have wy : IntKind.u64.wrap (y : Int) = (y : Int) := IntWalk.u64_in _ (by omega)
  have v1 : (rowL nL xs).length ≤ 70 := by
    have h1 := valsL_len hxs
    have h2 := numL_ten (v := xs.length) (by omega)
    omega
  have v2 : (rowL nL ys).length ≤ 70 := by
    have h1 := valsL_len hys
    have h2 := numL_ten (v := ys.length) (by omega)
    omega
  have na : (numL a).length ≤ 10 := numL_ten (by omega)
  have nx : (numL x).length ≤ 10 := numL_ten (by omega)
  have ny : (numL y).length ≤ 10 := numL_ten (by omega)
  have HE := Lib.hid (show l ++ tmL ⟨1, a, x, xs, y, ys⟩ = l ++ nL 1 ++ numL x ++ rowL nL xs by simp [tmL, tmT, nL_nat, List.append_assoc])
  rw [HE.out]
  have H2 := Lib.hid (fun (U : World) (hU : Lies B b (W.alloc ob) (l ++ nL 1) U) => one_put (v := x) hU.start (by omega) (by simp only [List.length_append]; omega))
  have H3 := Lib.hid (fun (U : World) (hU : Lies B b (W.alloc ob) (l ++ nL 1 ++ numL x) U) => values_put (n := n) hB hU.start ((hw.trans hA.k.below).trans hU.k.below) hn (by omega) hS hxs (by simp only [List.length_append]; omega))
  subst hob
  clear h hw hn h9 hS hn' h9' hS' ha hx hy hxs hys hl hB hA hq n1 v1 v2 na nx ny
  go_enter Try.func56, Try.ntmps56
  go_wp2_with fail
  refine HC.out.mono ?_
  rintro e w1 ⟨rfl, h1⟩
  have hc := h1.kept HBX.out HQ.out (by decide)
  have c0 : w1.cell? ⟨W.heap.size, 0, none⟩ = some (.int .i64 1) := by rw [Lib.cell_of_heap hc]; rfl
  have c2 : w1.cell? ⟨W.heap.size, 2, none⟩ = some (.int .i64 x) := by rw [Lib.cell_of_heap hc]; rfl
  have G1 := Lib.hid h1
  clear h1 hc
  go_wp2_with fail
  refine (H2.out w1 G1.out).mono ?_
  rintro e w2 ⟨rfl, h2⟩
  have G2 := Lib.hid (G1.out.then_ h2)
  have hc := G2.out.kept HBX.out HQ.out (by decide)
  have d23 : w2.cell? ⟨W.heap.size, 3, none⟩ = some (.slice A n c) := by rw [Lib.cell_of_heap hc]; rfl
  clear h2 hc
  go_wp2_with fail
  refine (H3.out w2 G2.out).mono ?_
  rintro e w3 ⟨rfl, h3⟩
  have G3 := Lib.hid (G2.out.then_ h3)
  clear h3
  go_wp2_with fail
  go_end0
  exact ⟨rfl, HA.out.then_ G3.out⟩
set_option maxRecDepth 100000 in
set_option maxHeartbeats 4000000 in
theorem end_put_2 {w0 : World} {B b : Nat} {l : List UInt8} {a x y : Nat} {xs ys : List Int} {A A' : Option Addr} {n c n' c' : Nat} {W : World} (hB : w0.heap.size = B) (h : Lies B b W l W) (hw : Below B w0 W) (hn : xs.length = n) (h9 : n ≤ 6) (hS : Ints w0 (.slice A n c) xs) (hn' : ys.length = n') (h9' : n' ≤ 6) (hS' : Ints w0 (.slice A' n' c') ys)
    (ha : a ≤ 4294967295) (hx : x ≤ 4294967295) (hy : y ≤ 4294967295) (hxs : ∀ v ∈ xs, NN v) (hys : ∀ v ∈ ys, NN v) (hl : l.length ≤ 98000000) :
    Calls Try.prog 56 #[.pointer (some ⟨b, 0, none⟩), .agg #[.int .i64 2, .int .i64 a, .int .i64 x, .slice A n c, .int .i64 y, .slice A' n' c']] W fun e w' => e = .returned (.tuple #[]) ∧ Lies B b W (l ++ tmL ⟨2, a, x, xs, y, ys⟩) w' := by
  have HALL := And.intro hB (And.intro hw (And.intro hn (And.intro h9 (And.intro hS (And.intro hn' (And.intro h9' (And.intro hS' (And.intro ha (And.intro hx (And.intro hy (And.intro hxs hys)))))))))))
  clear HALL
  obtain ⟨ob, hob⟩ : ∃ o, Obj.cells #[.int .i64 2, .int .i64 a, .int .i64 x, .slice A n c, .int .i64 y, .slice A' n' c'] 72 (0, 0) = o := ⟨_, rfl⟩
  have hq : W.heap.size ≠ b := box_lt h
  have hA := h.alloc ob
  have HQ := Lib.hid hq
  have HBX := Lib.hid (show (W.alloc ob).heap[W.heap.size]? = some (.cells #[.int .i64 2, .int .i64 a, .int .i64 x, .slice A n c, .int .i64 y, .slice A' n' c'] 72 (0, 0)) by rw [heap_alloc_new, hob])
  have n1 : (nL 2).length ≤ 10 := numL_ten (by decide)
  have HC := Lib.hid (one_putz 2 hA.start (by omega) (by omega) (by omega))
  rw [World.size_alloc] at HC
  have HA := Lib.hid hA
  have wa : IntKind.u64.wrap (a : Int) = (a : Int) := IntWalk.u64_in _ (by omega)
  have wx : IntKind.u64.wrap (x : Int) = (x : Int) := IntWalk.u64_in _ (by omega)
  have wy : IntKind.u64.wrap (y : Int) = (y : Int) := IntWalk.u64_in _ (by omega)
  have v1 : (rowL nL xs).length ≤ 70 := by
    have h1 := valsL_len hxs
    have h2 := numL_ten (v := xs.length) (by omega)
    omega
  have v2 : (rowL nL ys).length ≤ 70 := by
    have h1 := valsL_len hys
    have h2 := numL_ten (v := ys.length) (by omega)
    omega
  have na : (numL a).length ≤ 10 := numL_ten (by omega)
  have nx : (numL x).length ≤ 10 := numL_ten (by omega)
  have ny : (numL y).length ≤ 10 := numL_ten (by omega)
  have HE := Lib.hid (show l ++ tmL ⟨2, a, x, xs, y, ys⟩ = l ++ nL 2 ++ (numL a ++ numL x) ++ rowL nL xs ++ numL y ++ rowL nL ys by simp [tmL, tmT, nL_nat, List.append_assoc])
  rw [HE.out]
  have H2 := Lib.hid (fun (U : World) (hU : Lies B b (W.alloc ob) (l ++ nL 2) U) => two_put (v := a) (u := x) hU.start (by omega) (by omega) (by simp only [List.length_append]; omega))
  have H3 := Lib.hid (fun (U : World) (hU : Lies B b (W.alloc ob) (l ++ nL 2 ++ (numL a ++ numL x)) U) => values_put (n := n) hB hU.start ((hw.trans hA.k.below).trans hU.k.below) hn (by omega) hS hxs (by simp only [List.length_append]; omega))
  have H4 := Lib.hid (fun (U : World) (hU : Lies B b (W.alloc ob) (l ++ nL 2 ++ (numL a ++ numL x) ++ rowL nL xs) U) => one_put (v := y) hU.start (by omega) (by simp only [List.length_append]; omega))
  have H5 := Lib.hid (fun (U : World) (hU : Lies B b (W.alloc ob) (l ++ nL 2 ++ (numL a ++ numL x) ++ rowL nL xs ++ numL y) U) => values_put (n := n') hB hU.start ((hw.trans hA.k.below).trans hU.k.below) hn' (by omega) hS' hys (by simp only [List.length_append]; omega))
  subst hob
  clear h hw hn h9 hS hn' h9' hS' ha hx hy hxs hys hl hB hA hq n1 v1 v2 na nx ny
  go_enter Try.func56, Try.ntmps56
  go_wp2_with fail
  refine HC.out.mono ?_
  rintro e w1 ⟨rfl, h1⟩
  have hc := h1.kept HBX.out HQ.out (by decide)
  have c0 : w1.cell? ⟨W.heap.size, 0, none⟩ = some (.int .i64 2) := by rw [Lib.cell_of_heap hc]; rfl
  have c1 : w1.cell? ⟨W.heap.size, 1, none⟩ = some (.int .i64 a) := by rw [Lib.cell_of_heap hc]; rfl
  have c2 : w1.cell? ⟨W.heap.size, 2, none⟩ = some (.int .i64 x) := by rw [Lib.cell_of_heap hc]; rfl
  have G1 := Lib.hid h1
  clear h1 hc
  go_wp2_with fail
  refine (H2.out w1 G1.out).mono ?_
  rintro e w2 ⟨rfl, h2⟩
  have G2 := Lib.hid (G1.out.then_ h2)
  have hc := G2.out.kept HBX.out HQ.out (by decide)
  have d23 : w2.cell? ⟨W.heap.size, 3, none⟩ = some (.slice A n c) := by rw [Lib.cell_of_heap hc]; rfl
  clear h2 hc
  go_wp2_with fail
  refine (H3.out w2 G2.out).mono ?_
  rintro e w3 ⟨rfl, h3⟩
  have G3 := Lib.hid (G2.out.then_ h3)
  have hc := G3.out.kept HBX.out HQ.out (by decide)
  have d34 : w3.cell? ⟨W.heap.size, 4, none⟩ = some (.int .i64 y) := by rw [Lib.cell_of_heap hc]; rfl
  clear h3 hc
  go_wp2_with fail
  refine (H4.out w3 G3.out).mono ?_
  rintro e w4 ⟨rfl, h4⟩
  have G4 := Lib.hid (G3.out.then_ h4)
  have hc := G4.out.kept HBX.out HQ.out (by decide)
  have d45 : w4.cell? ⟨W.heap.size, 5, none⟩ = some (.slice A' n' c') := by rw [Lib.cell_of_heap hc]; rfl
  clear h4 hc
  go_wp2_with fail
  refine (H5.out w4 G4.out).mono ?_
  rintro e w5 ⟨rfl, h5⟩
  have G5 := Lib.hid (G4.out.then_ h5)
  clear h5
  go_wp2_with fail
  go_end0
  exact ⟨rfl, HA.out.then_ G5.out⟩
set_option maxRecDepth 100000 in
set_option maxHeartbeats 4000000 in
theorem end_put_3 {w0 : World} {B b : Nat} {l : List UInt8} {a x y : Nat} {xs ys : List Int} {A A' : Option Addr} {n c n' c' : Nat} {W : World} (hB : w0.heap.size = B) (h : Lies B b W l W) (hw : Below B w0 W) (hn : xs.length = n) (h9 : n ≤ 6) (hS : Ints w0 (.slice A n c) xs) (hn' : ys.length = n') (h9' : n' ≤ 6) (hS' : Ints w0 (.slice A' n' c') ys)
    (ha : a ≤ 4294967295) (hx : x ≤ 4294967295) (hy : y ≤ 4294967295) (hxs : ∀ v ∈ xs, NN v) (hys : ∀ v ∈ ys, NN v) (hl : l.length ≤ 98000000) :
    Calls Try.prog 56 #[.pointer (some ⟨b, 0, none⟩), .agg #[.int .i64 3, .int .i64 a, .int .i64 x, .slice A n c, .int .i64 y, .slice A' n' c']] W fun e w' => e = .returned (.tuple #[]) ∧ Lies B b W (l ++ tmL ⟨3, a, x, xs, y, ys⟩) w' := by
  have HALL := And.intro hB (And.intro hw (And.intro hn (And.intro h9 (And.intro hS (And.intro hn' (And.intro h9' (And.intro hS' (And.intro ha (And.intro hx (And.intro hy (And.intro hxs hys)))))))))))
  clear HALL
  obtain ⟨ob, hob⟩ : ∃ o, Obj.cells #[.int .i64 3, .int .i64 a, .int .i64 x, .slice A n c, .int .i64 y, .slice A' n' c'] 72 (0, 0) = o := ⟨_, rfl⟩
  have hq : W.heap.size ≠ b := box_lt h
  have hA := h.alloc ob
  have HQ := Lib.hid hq
  have HBX := Lib.hid (show (W.alloc ob).heap[W.heap.size]? = some (.cells #[.int .i64 3, .int .i64 a, .int .i64 x, .slice A n c, .int .i64 y, .slice A' n' c'] 72 (0, 0)) by rw [heap_alloc_new, hob])
  have n1 : (nL 3).length ≤ 10 := numL_ten (by decide)
  have HC := Lib.hid (one_putz 3 hA.start (by omega) (by omega) (by omega))
  rw [World.size_alloc] at HC
  have HA := Lib.hid hA
  have wa : IntKind.u64.wrap (a : Int) = (a : Int) := IntWalk.u64_in _ (by omega)
  have wx : IntKind.u64.wrap (x : Int) = (x : Int) := IntWalk.u64_in _ (by omega)
  have wy : IntKind.u64.wrap (y : Int) = (y : Int) := IntWalk.u64_in _ (by omega)
  have v1 : (rowL nL xs).length ≤ 70 := by
    have h1 := valsL_len hxs
    have h2 := numL_ten (v := xs.length) (by omega)
    omega
  have v2 : (rowL nL ys).length ≤ 70 := by
    have h1 := valsL_len hys
    have h2 := numL_ten (v := ys.length) (by omega)
    omega
  have na : (numL a).length ≤ 10 := numL_ten (by omega)
  have nx : (numL x).length ≤ 10 := numL_ten (by omega)
  have ny : (numL y).length ≤ 10 := numL_ten (by omega)
  have HE := Lib.hid (show l ++ tmL ⟨3, a, x, xs, y, ys⟩ = l ++ nL 3 ++ numL a by simp [tmL, tmT, nL_nat, List.append_assoc])
  rw [HE.out]
  have H2 := Lib.hid (fun (U : World) (hU : Lies B b (W.alloc ob) (l ++ nL 3) U) => one_put (v := a) hU.start (by omega) (by simp only [List.length_append]; omega))
  subst hob
  clear h hw hn h9 hS hn' h9' hS' ha hx hy hxs hys hl hB hA hq n1 v1 v2 na nx ny
  go_enter Try.func56, Try.ntmps56
  go_wp2_with fail
  refine HC.out.mono ?_
  rintro e w1 ⟨rfl, h1⟩
  have hc := h1.kept HBX.out HQ.out (by decide)
  have c0 : w1.cell? ⟨W.heap.size, 0, none⟩ = some (.int .i64 3) := by rw [Lib.cell_of_heap hc]; rfl
  have c1 : w1.cell? ⟨W.heap.size, 1, none⟩ = some (.int .i64 a) := by rw [Lib.cell_of_heap hc]; rfl
  have G1 := Lib.hid h1
  clear h1 hc
  go_wp2_with fail
  refine (H2.out w1 G1.out).mono ?_
  rintro e w2 ⟨rfl, h2⟩
  have G2 := Lib.hid (G1.out.then_ h2)
  clear h2
  go_wp2_with fail
  go_end0
  exact ⟨rfl, HA.out.then_ G2.out⟩
theorem end_put {w0 : World} {B b : Nat} {l : List UInt8} {t : Tm} {A A' : Option Addr} {c c' : Nat} {W : World} (hB : w0.heap.size = B) (h : Lies B b W l W) (hw : Below B w0 W) (hN : TmN t) (hk : 1 ≤ t.k ∧ t.k ≤ 3) (hS : Ints w0 (.slice A t.l.length c) t.l) (hS' : Ints w0 (.slice A' t.m.length c') t.m) (hl : l.length ≤ 98000000) :
    Calls Try.prog 56 #[.pointer (some ⟨b, 0, none⟩), .agg #[.int .i64 t.k, .int .i64 t.a, .int .i64 t.t, .slice A t.l.length c, .int .i64 t.e, .slice A' t.m.length c']] W fun e w' => e = .returned (.tuple #[]) ∧ Lies B b W (l ++ tmL t) w' := by
  obtain ⟨k, a, x, xs, y, ys⟩ := t
  obtain ⟨-, ha, hx, ⟨h6, hxs⟩, hy, h6', hys⟩ := hN
  obtain ⟨a, rfl⟩ : ∃ q : Nat, a = q := ⟨a.toNat, by have := ha.1; simp only at this; omega⟩
  obtain ⟨x, rfl⟩ : ∃ q : Nat, x = q := ⟨x.toNat, by have := hx.1; simp only at this; omega⟩
  obtain ⟨y, rfl⟩ : ∃ q : Nat, y = q := ⟨y.toNat, by have := hy.1; simp only at this; omega⟩
  have ha' : a ≤ 4294967295 := by have := ha.2; simp only at this; omega
  have hx' : x ≤ 4294967295 := by have := hx.2; simp only at this; omega
  have hy' : y ≤ 4294967295 := by have := hy.2; simp only at this; omega
  simp only at h6 h6' hxs hys hS hS' hk ⊢
  have ho' : k = 1 ∨ k = 2 ∨ k = 3 := by omega
  rcases ho' with rfl | rfl | rfl
  · exact end_put_1 hB h hw rfl h6 hS rfl h6' hS' ha' hx' hy' hxs hys hl
  · exact end_put_2 hB h hw rfl h6 hS rfl h6' hS' ha' hx' hy' hxs hys hl
  · exact end_put_3 hB h hw rfl h6 hS rfl h6' hS' ha' hx' hy' hxs hys hl
end Q
end Go.Proofs.Ytjldddpchiaalaa
